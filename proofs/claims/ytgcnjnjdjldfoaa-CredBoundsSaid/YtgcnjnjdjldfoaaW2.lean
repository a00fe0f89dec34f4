/- Contracts of Of, Exec, Setuid and Setgid of package cred. -/
import Derived.Test.YtgcnjnjdjldfoaaW1
namespace Go.Proofs.Ytgcnjnjdjldfoaa
open Go.RowKit
set_option linter.unusedVariables false
set_option linter.unusedSimpArgs false

/-- the post of a call that answers credentials and an error. -/
def Ans (a : Crd × Int) (w : World) (v : Ending) (w' : World) : Prop := v = .returned (ansV a) ∧ Below w.heap.size w w'
theorem bcell {B : Nat} {W w1 : World} (hb : Below B W w1) : (∀ b o, b < B → w1.cell? ⟨b, o, none⟩ = W.cell? ⟨b, o, none⟩) ∧ (∀ b o, b < B → w1.frozen? ⟨b, o, none⟩ = W.frozen? ⟨b, o, none⟩) :=
  ⟨fun b o h => hb.cell (p := ⟨b, o, none⟩) h, fun b o h => hb.frozen (p := ⟨b, o, none⟩) h⟩
def Blk (w : World) (g : Nat) (t : TypeId) (cs : Array Value) : Prop := w.heap[g]? = some (.cells cs t (0, 0))
theorem Blk.cell {w : World} {g : Nat} {t : TypeId} {cs : Array Value} (h : Blk w g t cs) (i : Nat) : w.cell? ⟨g, i, none⟩ = cs[i]? := cell_of_row w g i cs t (0, 0) h
theorem Blk.set_ {w : World} {g : Nat} {t : TypeId} {cs : Array Value} (h : Blk w g t cs) (i : Nat) (u : Value) : Blk (w.setCell ⟨g, i, none⟩ u) g t (cs.setIfInBounds i u) := by
  unfold Blk at h ⊢
  simp [World.setCell, Array.getElem?_modify, h]
theorem Blk.far {w : World} {g : Nat} {t : TypeId} {cs : Array Value} (h : Blk w g t cs) {p : Addr} (hp : g ≠ p.block) (u : Value) : Blk (w.setCell p u) g t cs := (Below.heap_setCell w p u g hp).trans h
theorem five {W : World} {B : Nat} {a b c d e : Value} (h : Blk W B 23 #[a, b, c, d, e]) (v0 v1 v2 v3 v4 : Value) :
    Blk (((((W.setCell ⟨B, 0, none⟩ v0).setCell ⟨B, 1, none⟩ v1).setCell ⟨B, 2, none⟩ v2).setCell ⟨B, 3, none⟩ v3).setCell ⟨B, 4, none⟩ v4) B 23 #[v0, v1, v2, v3, v4] :=
  ((((h.set_ 0 v0).set_ 1 v1).set_ 2 v2).set_ 3 v3).set_ 4 v4
theorem of_any (u g : Int) (w : World) : Calls Try.prog 10 #[.int .i64 u, .int .i64 g] w (Ans (ofP u g) w) := by
  obtain ⟨b, hb⟩ : ∃ b, idsB [u, g] = b := ⟨_, rfl⟩
  have hc0 := areIDs_any _ 2 2 _ _ (in_two (w.alloc (.cells #[.int .i64 0, .int .i64 0, .int .i64 0, .int .i64 0, .int .i64 0] 23)) u g) (by decide)
  rw [show (w.alloc (.cells #[.int .i64 0, .int .i64 0, .int .i64 0, .int .i64 0, .int .i64 0] 23)).heap.size = w.heap.size + 1 by simp, hb] at hc0
  have Hc := Lib.hid hc0
  have Hb := Lib.hid hb
  clear hc0 hb
  cases b
  · have Hr := Lib.hid (show ofP u g = (noC, 1) by unfold ofP; rw [Hb.out, if_neg Bool.false_ne_true])
    go_enter Try.func10, Try.ntmps10
    go_wp2_with (go_at_call 18; refine Hc.out.mono ?_; rintro e w' ⟨rfl, rfl⟩)
    exact bodyPost_ret (v := ansV (noC, 1)) (by simp [results, Try.results10, go_sem, ansV, noC]) rfl ⟨by rw [Hr.out], ((Below.refl _ _).alloc (Nat.le_refl _) _).alloc (by simp) _⟩
  · have Hr := Lib.hid (show ofP u g = (⟨u, u, u, g, g⟩, 0) by unfold ofP; rw [Hb.out, if_pos rfl])
    go_enter Try.func10, Try.ntmps10
    go_wp2_with (go_at_call 18; refine Hc.out.mono ?_; rintro e w' ⟨rfl, rfl⟩)
    exact bodyPost_ret (v := ansV (⟨u, u, u, g, g⟩, 0)) (by simp [results, Try.results10, go_sem, ansV]) rfl ⟨by rw [Hr.out], ((Below.refl _ _).alloc (Nat.le_refl _) _).alloc (by simp) _⟩
theorem two_cells {w w1 : World} {a b c d e f g h i j : Value} (hb : Below ((w.alloc (.cells #[a, b, c, d, e] 23)).alloc (.cells #[f, g, h, i, j] 23)).heap.size ((w.alloc (.cells #[a, b, c, d, e] 23)).alloc (.cells #[f, g, h, i, j] 23)) w1) :
    w1.cell? ⟨w.heap.size, 0, none⟩ = some a ∧ w1.cell? ⟨w.heap.size, 1, none⟩ = some b ∧ w1.cell? ⟨w.heap.size, 2, none⟩ = some c ∧ w1.cell? ⟨w.heap.size, 3, none⟩ = some d ∧ w1.cell? ⟨w.heap.size, 4, none⟩ = some e ∧ w1.cell? ⟨w.heap.size + 1, 0, none⟩ = some f ∧ w1.cell? ⟨w.heap.size + 1, 1, none⟩ = some g ∧ w1.cell? ⟨w.heap.size + 1, 2, none⟩ = some h ∧ w1.cell? ⟨w.heap.size + 1, 3, none⟩ = some i ∧ w1.cell? ⟨w.heap.size + 1, 4, none⟩ = some j ∧ w1.frozen? ⟨w.heap.size, 0, none⟩ = false ∧ w1.frozen? ⟨w.heap.size, 1, none⟩ = false ∧ w1.frozen? ⟨w.heap.size, 2, none⟩ = false ∧ w1.frozen? ⟨w.heap.size, 3, none⟩ = false ∧ w1.frozen? ⟨w.heap.size, 4, none⟩ = false ∧ w1.frozen? ⟨w.heap.size + 1, 0, none⟩ = false ∧ w1.frozen? ⟨w.heap.size + 1, 1, none⟩ = false ∧ w1.frozen? ⟨w.heap.size + 1, 2, none⟩ = false ∧ w1.frozen? ⟨w.heap.size + 1, 3, none⟩ = false ∧ w1.frozen? ⟨w.heap.size + 1, 4, none⟩ = false := by
  obtain ⟨hc, hf⟩ := bcell hb
  refine ⟨?_, ?_, ?_, ?_, ?_, ?_, ?_, ?_, ?_, ?_, ?_, ?_, ?_, ?_, ?_, ?_, ?_, ?_, ?_, ?_⟩
  all_goals first | (refine (hc _ _ (by simp <;> omega)).trans ?_; go_simp) | (refine (hf _ _ (by simp <;> omega)).trans ?_; go_simp)
theorem base2 {w w1 : World} {o1 o2 : Obj} (hb : Below ((w.alloc o1).alloc o2).heap.size ((w.alloc o1).alloc o2) w1) : Below w.heap.size w w1 :=
  (((Below.refl _ _).alloc (Nat.le_refl _) _).alloc (by simp) _).trans (hb.mono (by simp; omega))
theorem two_blk {w w1 : World} {o : Obj} {cs : Array Value} (hb : Below ((w.alloc o).alloc (.cells cs 23)).heap.size ((w.alloc o).alloc (.cells cs 23)) w1) : Blk w1 (w.heap.size + 1) 23 cs := by
  have h := heap_alloc_new (w.alloc o) (.cells cs 23)
  rw [show (w.alloc o).heap.size = w.heap.size + 1 by simp] at h
  exact (hb.block _ (by simp)).trans h
theorem res12 {W : World} {B : Nat} {a b c d e : Int} (k : Int) (h : Blk W B 23 #[.int .i64 a, .int .i64 b, .int .i64 c, .int .i64 d, .int .i64 e]) (tmps : Array Value)
    (h2 : tmps.getD 6 undef = .pointer (some ⟨B, 0, none⟩)) (h3 : tmps.getD 7 undef = .int .i64 k) :
    (results Try.f12 tmps).run Try.prog W = .ok (ansV (⟨a, b, c, d, e⟩, k)) W := by
  have c0 := h.cell 0
  have c1 := h.cell 1
  have c2 := h.cell 2
  have c3 := h.cell 3
  have c4 := h.cell 4
  simp only [List.getElem?_toArray, List.getElem?_cons_zero, List.getElem?_cons_succ] at c0 c1 c2 c3 c4
  simp only [Array.getD_eq_getD_getElem?] at h2 h3
  simp only [results, Try.f12, ansV]
  simp [go_sem, h2, h3, c0, c1, c2, c3, c4]
theorem res14 {W : World} {B : Nat} {a b c d e : Int} (k : Int) (h : Blk W B 23 #[.int .i64 a, .int .i64 b, .int .i64 c, .int .i64 d, .int .i64 e]) (tmps : Array Value)
    (h2 : tmps.getD 4 undef = .pointer (some ⟨B, 0, none⟩)) (h3 : tmps.getD 5 undef = .int .i64 k) :
    (results Try.f14 tmps).run Try.prog W = .ok (ansV (⟨a, b, c, d, e⟩, k)) W := by
  have c0 := h.cell 0
  have c1 := h.cell 1
  have c2 := h.cell 2
  have c3 := h.cell 3
  have c4 := h.cell 4
  simp only [List.getElem?_toArray, List.getElem?_cons_zero, List.getElem?_cons_succ] at c0 c1 c2 c3 c4
  simp only [Array.getD_eq_getD_getElem?] at h2 h3
  simp only [results, Try.f14, ansV]
  simp [go_sem, h2, h3, c0, c1, c2, c3, c4]
theorem res16 {W : World} {B : Nat} {a b c d e : Int} (k : Int) (h : Blk W B 23 #[.int .i64 a, .int .i64 b, .int .i64 c, .int .i64 d, .int .i64 e]) (tmps : Array Value)
    (h2 : tmps.getD 4 undef = .pointer (some ⟨B, 0, none⟩)) (h3 : tmps.getD 5 undef = .int .i64 k) :
    (results Try.f16 tmps).run Try.prog W = .ok (ansV (⟨a, b, c, d, e⟩, k)) W := by
  have c0 := h.cell 0
  have c1 := h.cell 1
  have c2 := h.cell 2
  have c3 := h.cell 3
  have c4 := h.cell 4
  simp only [List.getElem?_toArray, List.getElem?_cons_zero, List.getElem?_cons_succ] at c0 c1 c2 c3 c4
  simp only [Array.getD_eq_getD_getElem?] at h2 h3
  simp only [results, Try.f16, ansV]
  simp [go_sem, h2, h3, c0, c1, c2, c3, c4]
set_option maxHeartbeats 1000000 in
theorem exec_any (r e s g x m o : Int) (w : World) : Calls Try.prog 12 #[.agg #[.int .i64 r, .int .i64 e, .int .i64 s, .int .i64 g, .int .i64 x], .int .i64 m, .int .i64 o] w (Ans (execP ⟨r, e, s, g, x⟩ m o) w) := by
  obtain ⟨b, hb⟩ : ∃ b, rightB ⟨r, e, s, g, x⟩ o = b := ⟨_, rfl⟩
  have hc0 := fun W => right_any r e s g x o W
  rw [hb] at hc0
  have Hc := Lib.hid hc0
  have Hb := Lib.hid hb
  clear hc0 hb
  cases b
  · have Hr := Lib.hid (show execP ⟨r, e, s, g, x⟩ m o = (noC, 1) by unfold execP; rw [Hb.out, if_neg Bool.false_ne_true])
    go_enter Try.func12, Try.ntmps12
    go_wp2_with (go_at_call 20; refine (Hc.out _).mono ?_; rintro e w1 ⟨rfl, hb⟩; have Hz := Lib.hid (two_blk hb); obtain ⟨c0, c1, c2, c3, c4, d0, d1, d2, d3, d4, f0, f1, f2, f3, f4, g0, g1, g2, g3, g4⟩ := two_cells hb; have Hb1 := Lib.hid hb; clear hb)
    refine bodyPost_ret (res12 1 (B := w.heap.size + 1) (five (by (repeat refine Blk.far ?_ (Nat.succ_ne_self _) _); exact Hz.out) _ _ _ _ _) _ rfl rfl) rfl ⟨by rw [Hr.out]; try rfl, ?_⟩
    repeat refine Below.setCell ?_ (by simp) _
    exact base2 Hb1.out
  · cases hm : (bits .and .i64 m 2048 != 0)
    · have Hr := Lib.hid (show execP ⟨r, e, s, g, x⟩ m o = (⟨r, e, e, g, x⟩, 0) by unfold execP effP; rw [Hb.out, if_pos rfl, hm, if_neg Bool.false_ne_true])
      go_enter Try.func12, Try.ntmps12
      go_wp2_with (go_at_call 20; refine (Hc.out _).mono ?_; rintro e w1 ⟨rfl, hb⟩; have Hz := Lib.hid (two_blk hb); obtain ⟨c0, c1, c2, c3, c4, d0, d1, d2, d3, d4, f0, f1, f2, f3, f4, g0, g1, g2, g3, g4⟩ := two_cells hb; have Hb1 := Lib.hid hb; clear hb)
      refine bodyPost_ret (res12 0 (B := w.heap.size + 1) (five (by (repeat refine Blk.far ?_ (Nat.succ_ne_self _) _); exact Hz.out) _ _ _ _ _) _ rfl rfl) rfl ⟨by rw [Hr.out]; try rfl, ?_⟩
      repeat refine Below.setCell ?_ (by simp) _
      exact base2 Hb1.out
    · have Hr := Lib.hid (show execP ⟨r, e, s, g, x⟩ m o = (⟨r, o, o, g, x⟩, 0) by unfold execP effP; rw [Hb.out, if_pos rfl, hm, if_pos rfl])
      go_enter Try.func12, Try.ntmps12
      go_wp2_with (go_at_call 20; refine (Hc.out _).mono ?_; rintro e w1 ⟨rfl, hb⟩; have Hz := Lib.hid (two_blk hb); obtain ⟨c0, c1, c2, c3, c4, d0, d1, d2, d3, d4, f0, f1, f2, f3, f4, g0, g1, g2, g3, g4⟩ := two_cells hb; have Hb1 := Lib.hid hb; clear hb)
      refine bodyPost_ret (res12 0 (B := w.heap.size + 1) (five (by (repeat refine Blk.far ?_ (Nat.succ_ne_self _) _); exact Hz.out) _ _ _ _ _) _ rfl rfl) rfl ⟨by rw [Hr.out]; try rfl, ?_⟩
      repeat refine Below.setCell ?_ (by simp) _
      exact base2 Hb1.out
set_option maxHeartbeats 1000000 in
theorem suid_any (r e s g x u : Int) (w : World) : Calls Try.prog 14 #[.agg #[.int .i64 r, .int .i64 e, .int .i64 s, .int .i64 g, .int .i64 x], .int .i64 u] w (Ans (suidP ⟨r, e, s, g, x⟩ u) w) := by
  obtain ⟨b, hb⟩ : ∃ b, rightB ⟨r, e, s, g, x⟩ u = b := ⟨_, rfl⟩
  have hc0 := fun W => right_any r e s g x u W
  rw [hb] at hc0
  have Hc := Lib.hid hc0
  have Hb := Lib.hid hb
  clear hc0 hb
  cases b
  · have Hr := Lib.hid (show suidP ⟨r, e, s, g, x⟩ u = (noC, 1) by unfold suidP; rw [Hb.out, if_neg Bool.false_ne_true])
    go_enter Try.func14, Try.ntmps14
    go_wp2_with (go_at_call 20; refine (Hc.out _).mono ?_; rintro e w1 ⟨rfl, hb⟩; have Hz := Lib.hid (two_blk hb); obtain ⟨c0, c1, c2, c3, c4, d0, d1, d2, d3, d4, f0, f1, f2, f3, f4, g0, g1, g2, g3, g4⟩ := two_cells hb; have Hb1 := Lib.hid hb; clear hb)
    refine bodyPost_ret (res14 1 (B := w.heap.size + 1) (five (by (repeat refine Blk.far ?_ (Nat.succ_ne_self _) _); exact Hz.out) _ _ _ _ _) _ rfl rfl) rfl ⟨by rw [Hr.out]; try rfl, ?_⟩
    repeat refine Below.setCell ?_ (by simp) _
    exact base2 Hb1.out
  · cases h0 : (e == 0)
    · cases h1 : (u == r)
      · cases h2 : (u == s)
        · have Hr := Lib.hid (show suidP ⟨r, e, s, g, x⟩ u = (noC, 2) by unfold suidP; rw [Hb.out, if_pos rfl, if_neg (ne_of_beq_false h0), if_neg (ne_of_beq_false h1), if_neg (ne_of_beq_false h2)])
          go_enter Try.func14, Try.ntmps14
          go_wp2_with (go_at_call 20; refine (Hc.out _).mono ?_; rintro e w1 ⟨rfl, hb⟩; have Hz := Lib.hid (two_blk hb); obtain ⟨c0, c1, c2, c3, c4, d0, d1, d2, d3, d4, f0, f1, f2, f3, f4, g0, g1, g2, g3, g4⟩ := two_cells hb; have Hb1 := Lib.hid hb; clear hb)
          refine bodyPost_ret (res14 2 (B := w.heap.size + 1) (five (by (repeat refine Blk.far ?_ (Nat.succ_ne_self _) _); exact Hz.out) _ _ _ _ _) _ rfl rfl) rfl ⟨by rw [Hr.out]; try rfl, ?_⟩
          repeat refine Below.setCell ?_ (by simp) _
          exact base2 Hb1.out
        · have Hr := Lib.hid (show suidP ⟨r, e, s, g, x⟩ u = (⟨r, u, s, g, x⟩, 0) by unfold suidP; rw [Hb.out, if_pos rfl, if_neg (ne_of_beq_false h0), if_neg (ne_of_beq_false h1), if_pos (eq_of_beq h2)])
          go_enter Try.func14, Try.ntmps14
          go_wp2_with (go_at_call 20; refine (Hc.out _).mono ?_; rintro e w1 ⟨rfl, hb⟩; have Hz := Lib.hid (two_blk hb); obtain ⟨c0, c1, c2, c3, c4, d0, d1, d2, d3, d4, f0, f1, f2, f3, f4, g0, g1, g2, g3, g4⟩ := two_cells hb; have Hb1 := Lib.hid hb; clear hb)
          refine bodyPost_ret (res14 0 (B := w.heap.size + 1) (five (by (repeat refine Blk.far ?_ (Nat.succ_ne_self _) _); exact Hz.out) _ _ _ _ _) _ rfl rfl) rfl ⟨by rw [Hr.out]; try rfl, ?_⟩
          repeat refine Below.setCell ?_ (by simp) _
          exact base2 Hb1.out
      · have Hr := Lib.hid (show suidP ⟨r, e, s, g, x⟩ u = (⟨r, u, s, g, x⟩, 0) by unfold suidP; rw [Hb.out, if_pos rfl, if_neg (ne_of_beq_false h0), if_pos (eq_of_beq h1)])
        go_enter Try.func14, Try.ntmps14
        go_wp2_with (go_at_call 20; refine (Hc.out _).mono ?_; rintro e w1 ⟨rfl, hb⟩; have Hz := Lib.hid (two_blk hb); obtain ⟨c0, c1, c2, c3, c4, d0, d1, d2, d3, d4, f0, f1, f2, f3, f4, g0, g1, g2, g3, g4⟩ := two_cells hb; have Hb1 := Lib.hid hb; clear hb)
        refine bodyPost_ret (res14 0 (B := w.heap.size + 1) (five (by (repeat refine Blk.far ?_ (Nat.succ_ne_self _) _); exact Hz.out) _ _ _ _ _) _ rfl rfl) rfl ⟨by rw [Hr.out]; try rfl, ?_⟩
        repeat refine Below.setCell ?_ (by simp) _
        exact base2 Hb1.out
    · have Hr := Lib.hid (show suidP ⟨r, e, s, g, x⟩ u = (⟨u, u, u, g, x⟩, 0) by unfold suidP; rw [Hb.out, if_pos rfl, if_pos (eq_of_beq h0)])
      go_enter Try.func14, Try.ntmps14
      go_wp2_with (go_at_call 20; refine (Hc.out _).mono ?_; rintro e w1 ⟨rfl, hb⟩; have Hz := Lib.hid (two_blk hb); obtain ⟨c0, c1, c2, c3, c4, d0, d1, d2, d3, d4, f0, f1, f2, f3, f4, g0, g1, g2, g3, g4⟩ := two_cells hb; have Hb1 := Lib.hid hb; clear hb)
      refine bodyPost_ret (res14 0 (B := w.heap.size + 1) (five (by (repeat refine Blk.far ?_ (Nat.succ_ne_self _) _); exact Hz.out) _ _ _ _ _) _ rfl rfl) rfl ⟨by rw [Hr.out]; try rfl, ?_⟩
      repeat refine Below.setCell ?_ (by simp) _
      exact base2 Hb1.out
set_option maxHeartbeats 1000000 in
theorem sgid_any (r e s g x n : Int) (w : World) : Calls Try.prog 16 #[.agg #[.int .i64 r, .int .i64 e, .int .i64 s, .int .i64 g, .int .i64 x], .int .i64 n] w (Ans (sgidP ⟨r, e, s, g, x⟩ n) w) := by
  obtain ⟨b, hb⟩ : ∃ b, rightB ⟨r, e, s, g, x⟩ n = b := ⟨_, rfl⟩
  have hc0 := fun W => right_any r e s g x n W
  rw [hb] at hc0
  have Hc := Lib.hid hc0
  have Hb := Lib.hid hb
  clear hc0 hb
  cases b
  · have Hr := Lib.hid (show sgidP ⟨r, e, s, g, x⟩ n = (noC, 1) by unfold sgidP; rw [Hb.out, if_neg Bool.false_ne_true])
    go_enter Try.func16, Try.ntmps16
    go_wp2_with (go_at_call 20; refine (Hc.out _).mono ?_; rintro e w1 ⟨rfl, hb⟩; have Hz := Lib.hid (two_blk hb); obtain ⟨c0, c1, c2, c3, c4, d0, d1, d2, d3, d4, f0, f1, f2, f3, f4, g0, g1, g2, g3, g4⟩ := two_cells hb; have Hb1 := Lib.hid hb; clear hb)
    refine bodyPost_ret (res16 1 (B := w.heap.size + 1) (five (by (repeat refine Blk.far ?_ (Nat.succ_ne_self _) _); exact Hz.out) _ _ _ _ _) _ rfl rfl) rfl ⟨by rw [Hr.out]; try rfl, ?_⟩
    repeat refine Below.setCell ?_ (by simp) _
    exact base2 Hb1.out
  · cases h0 : (e == 0)
    · cases h1 : (n == g)
      · have Hr := Lib.hid (show sgidP ⟨r, e, s, g, x⟩ n = (noC, 2) by unfold sgidP; rw [Hb.out, if_pos rfl, if_neg (ne_of_beq_false h0), if_neg (ne_of_beq_false h1)])
        go_enter Try.func16, Try.ntmps16
        go_wp2_with (go_at_call 20; refine (Hc.out _).mono ?_; rintro e w1 ⟨rfl, hb⟩; have Hz := Lib.hid (two_blk hb); obtain ⟨c0, c1, c2, c3, c4, d0, d1, d2, d3, d4, f0, f1, f2, f3, f4, g0, g1, g2, g3, g4⟩ := two_cells hb; have Hb1 := Lib.hid hb; clear hb)
        refine bodyPost_ret (res16 2 (B := w.heap.size + 1) (five (by (repeat refine Blk.far ?_ (Nat.succ_ne_self _) _); exact Hz.out) _ _ _ _ _) _ rfl rfl) rfl ⟨by rw [Hr.out]; try rfl, ?_⟩
        repeat refine Below.setCell ?_ (by simp) _
        exact base2 Hb1.out
      · have Hr := Lib.hid (show sgidP ⟨r, e, s, g, x⟩ n = (⟨r, e, s, g, n⟩, 0) by unfold sgidP; rw [Hb.out, if_pos rfl, if_neg (ne_of_beq_false h0), if_pos (eq_of_beq h1)])
        go_enter Try.func16, Try.ntmps16
        go_wp2_with (go_at_call 20; refine (Hc.out _).mono ?_; rintro e w1 ⟨rfl, hb⟩; have Hz := Lib.hid (two_blk hb); obtain ⟨c0, c1, c2, c3, c4, d0, d1, d2, d3, d4, f0, f1, f2, f3, f4, g0, g1, g2, g3, g4⟩ := two_cells hb; have Hb1 := Lib.hid hb; clear hb)
        refine bodyPost_ret (res16 0 (B := w.heap.size + 1) (five (by (repeat refine Blk.far ?_ (Nat.succ_ne_self _) _); exact Hz.out) _ _ _ _ _) _ rfl rfl) rfl ⟨by rw [Hr.out]; try rfl, ?_⟩
        repeat refine Below.setCell ?_ (by simp) _
        exact base2 Hb1.out
    · have Hr := Lib.hid (show sgidP ⟨r, e, s, g, x⟩ n = (⟨r, e, s, n, n⟩, 0) by unfold sgidP; rw [Hb.out, if_pos rfl, if_pos (eq_of_beq h0)])
      go_enter Try.func16, Try.ntmps16
      go_wp2_with (go_at_call 20; refine (Hc.out _).mono ?_; rintro e w1 ⟨rfl, hb⟩; have Hz := Lib.hid (two_blk hb); obtain ⟨c0, c1, c2, c3, c4, d0, d1, d2, d3, d4, f0, f1, f2, f3, f4, g0, g1, g2, g3, g4⟩ := two_cells hb; have Hb1 := Lib.hid hb; clear hb)
      refine bodyPost_ret (res16 0 (B := w.heap.size + 1) (five (by (repeat refine Blk.far ?_ (Nat.succ_ne_self _) _); exact Hz.out) _ _ _ _ _) _ rfl rfl) rfl ⟨by rw [Hr.out]; try rfl, ?_⟩
      repeat refine Below.setCell ?_ (by simp) _
      exact base2 Hb1.out
end Go.Proofs.Ytgcnjnjdjldfoaa
