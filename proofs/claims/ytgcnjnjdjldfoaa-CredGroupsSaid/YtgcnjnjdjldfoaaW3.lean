/- Contracts of the document's Of, Exec, Setuid and Setgid. -/
import Derived.Test.YtgcnjnjdjldfoaaW2
namespace Go.Proofs.Ytgcnjnjdjldfoaa
open Go.RowKit
set_option linter.unusedVariables false
set_option linter.unusedSimpArgs false

theorem may_of (u g : Int) : mayB ⟨u, u, u, g, g⟩ = idsB [u, g] := by
  rw [Bool.eq_iff_iff]
  simp [mayB, idsB]
theorem res11 {W : World} {B : Nat} {a b c d e : Int} (k : Int) (h : Blk W B 23 #[.int .i64 a, .int .i64 b, .int .i64 c, .int .i64 d, .int .i64 e]) (tmps : Array Value)
    (h2 : tmps.getD 4 undef = .pointer (some ⟨B, 0, none⟩)) (h3 : tmps.getD 5 undef = .int .i64 k) :
    (results Try.f11 tmps).run Try.prog W = .ok (ansV (⟨a, b, c, d, e⟩, k)) W := by
  have c0 := h.cell 0
  have c1 := h.cell 1
  have c2 := h.cell 2
  have c3 := h.cell 3
  have c4 := h.cell 4
  simp only [List.getElem?_toArray, List.getElem?_cons_zero, List.getElem?_cons_succ] at c0 c1 c2 c3 c4
  simp only [Array.getD_eq_getD_getElem?] at h2 h3
  simp only [results, Try.f11, ansV]
  simp [go_sem, h2, h3, c0, c1, c2, c3, c4]
theorem res13 {W : World} {B : Nat} {a b c d e : Int} (k : Int) (h : Blk W B 23 #[.int .i64 a, .int .i64 b, .int .i64 c, .int .i64 d, .int .i64 e]) (tmps : Array Value)
    (h2 : tmps.getD 6 undef = .pointer (some ⟨B, 0, none⟩)) (h3 : tmps.getD 7 undef = .int .i64 k) :
    (results Try.f13 tmps).run Try.prog W = .ok (ansV (⟨a, b, c, d, e⟩, k)) W := by
  have c0 := h.cell 0
  have c1 := h.cell 1
  have c2 := h.cell 2
  have c3 := h.cell 3
  have c4 := h.cell 4
  simp only [List.getElem?_toArray, List.getElem?_cons_zero, List.getElem?_cons_succ] at c0 c1 c2 c3 c4
  simp only [Array.getD_eq_getD_getElem?] at h2 h3
  simp only [results, Try.f13, ansV]
  simp [go_sem, h2, h3, c0, c1, c2, c3, c4]
theorem res15 {W : World} {B : Nat} {a b c d e : Int} (k : Int) (h : Blk W B 23 #[.int .i64 a, .int .i64 b, .int .i64 c, .int .i64 d, .int .i64 e]) (tmps : Array Value)
    (h2 : tmps.getD 4 undef = .pointer (some ⟨B, 0, none⟩)) (h3 : tmps.getD 5 undef = .int .i64 k) :
    (results Try.f15 tmps).run Try.prog W = .ok (ansV (⟨a, b, c, d, e⟩, k)) W := by
  have c0 := h.cell 0
  have c1 := h.cell 1
  have c2 := h.cell 2
  have c3 := h.cell 3
  have c4 := h.cell 4
  simp only [List.getElem?_toArray, List.getElem?_cons_zero, List.getElem?_cons_succ] at c0 c1 c2 c3 c4
  simp only [Array.getD_eq_getD_getElem?] at h2 h3
  simp only [results, Try.f15, ansV]
  simp [go_sem, h2, h3, c0, c1, c2, c3, c4]
theorem res17 {W : World} {B : Nat} {a b c d e : Int} (k : Int) (h : Blk W B 23 #[.int .i64 a, .int .i64 b, .int .i64 c, .int .i64 d, .int .i64 e]) (tmps : Array Value)
    (h2 : tmps.getD 4 undef = .pointer (some ⟨B, 0, none⟩)) (h3 : tmps.getD 5 undef = .int .i64 k) :
    (results Try.f17 tmps).run Try.prog W = .ok (ansV (⟨a, b, c, d, e⟩, k)) W := by
  have c0 := h.cell 0
  have c1 := h.cell 1
  have c2 := h.cell 2
  have c3 := h.cell 3
  have c4 := h.cell 4
  simp only [List.getElem?_toArray, List.getElem?_cons_zero, List.getElem?_cons_succ] at c0 c1 c2 c3 c4
  simp only [Array.getD_eq_getD_getElem?] at h2 h3
  simp only [results, Try.f17, ansV]
  simp [go_sem, h2, h3, c0, c1, c2, c3, c4]
theorem two_blk1 {w w1 : World} {o : Obj} {cs : Array Value} (hb : Below ((w.alloc (.cells cs 23)).alloc o).heap.size ((w.alloc (.cells cs 23)).alloc o) w1) : Blk w1 w.heap.size 23 cs := by
  have h := heap_alloc_new w (.cells cs 23)
  refine (hb.block _ (by simp; omega)).trans ((Below.heap_alloc _ _ _ (by simp)).trans h)
set_option maxHeartbeats 1000000 in
theorem rof_any (u g : Int) (w : World) : Calls Try.prog 11 #[.int .i64 u, .int .i64 g] w (Ans (ofP u g) w) := by
  have hrm := may_of u g
  obtain ⟨b, hb⟩ : ∃ b, idsB [u, g] = b := ⟨_, rfl⟩
  have hc0 := fun W => may_any u u u g g W
  rw [hrm, hb] at hc0
  have Hc := Lib.hid hc0
  have Hb := Lib.hid hb
  clear hc0 hb hrm
  cases b
  · have Hr := Lib.hid (show ofP u g = (noC, 1) by unfold ofP; rw [Hb.out, if_neg Bool.false_ne_true])
    go_enter Try.func11, Try.ntmps11
    go_wp2_with (go_at_call 19; refine (Hc.out _).mono ?_; rintro e w1 ⟨rfl, hb⟩; have Hz := Lib.hid (two_blk1 hb); obtain ⟨c0, c1, c2, c3, c4, d0, d1, d2, d3, d4, f0, f1, f2, f3, f4, g0, g1, g2, g3, g4⟩ := two_cells hb; have Hb1 := Lib.hid hb; clear hb)
    refine bodyPost_ret (res11 1 (B := w.heap.size) (five Hz.out _ _ _ _ _) _ rfl rfl) rfl ⟨by rw [Hr.out]; try rfl, ?_⟩
    repeat refine Below.setCell ?_ (by simp) _
    exact base2 Hb1.out
  · have Hr := Lib.hid (show ofP u g = (⟨u, u, u, g, g⟩, 0) by unfold ofP; rw [Hb.out, if_pos rfl])
    go_enter Try.func11, Try.ntmps11
    go_wp2_with (go_at_call 19; refine (Hc.out _).mono ?_; rintro e w1 ⟨rfl, hb⟩; have Hz := Lib.hid (two_blk1 hb); obtain ⟨c0, c1, c2, c3, c4, d0, d1, d2, d3, d4, f0, f1, f2, f3, f4, g0, g1, g2, g3, g4⟩ := two_cells hb; have Hb1 := Lib.hid hb; clear hb)
    refine bodyPost_ret (res11 0 (B := w.heap.size) (five Hz.out _ _ _ _ _) _ rfl rfl) rfl ⟨by rw [Hr.out]; try rfl, ?_⟩
    repeat refine Below.setCell ?_ (by simp) _
    exact base2 Hb1.out
set_option maxHeartbeats 1000000 in
theorem rexec_any (r e s g x m o : Int) (w : World) : Calls Try.prog 13 #[.agg #[.int .i64 r, .int .i64 e, .int .i64 s, .int .i64 g, .int .i64 x], .int .i64 m, .int .i64 o] w (Ans (execP ⟨r, e, s, g, x⟩ m o) w) := by
  have hrm := right_may ⟨r, e, s, g, x⟩ o
  obtain ⟨b, hb⟩ : ∃ b, mayB ⟨r, e, s, g, x⟩ = b := ⟨_, rfl⟩
  obtain ⟨b', hb'⟩ : ∃ b, idB o = b := ⟨_, rfl⟩
  have hc0 := fun W => may_any r e s g x W
  have hi0 := fun W => id_any o W
  rw [hb, hb'] at hrm
  rw [hb] at hc0
  rw [hb'] at hi0
  have Hc := Lib.hid hc0
  have Hi := Lib.hid hi0
  have Hb := Lib.hid hrm
  clear hc0 hi0 hb hb' hrm
  cases b
  · have Hr := Lib.hid (show execP ⟨r, e, s, g, x⟩ m o = (noC, 1) by unfold execP; rw [Hb.out, Bool.false_and, if_neg Bool.false_ne_true])
    go_enter Try.func13, Try.ntmps13
    go_wp2_with (first | (go_at_call 19; refine (Hc.out _).mono ?_; rintro e w1 ⟨rfl, hb⟩; have Hz := Lib.hid (two_blk hb); obtain ⟨c0, c1, c2, c3, c4, d0, d1, d2, d3, d4, f0, f1, f2, f3, f4, g0, g1, g2, g3, g4⟩ := two_cells hb; have Hb1 := Lib.hid hb; clear hb) | (go_at_call 21; refine (Hi.out _).mono ?_; rintro e w' ⟨rfl, rfl⟩))
    refine bodyPost_ret (res13 1 (B := w.heap.size + 1) (five (by (repeat refine Blk.far ?_ (Nat.succ_ne_self _) _); exact Hz.out) _ _ _ _ _) _ rfl rfl) rfl ⟨by rw [Hr.out]; try rfl, ?_⟩
    repeat refine Below.setCell ?_ (by simp) _
    exact base2 Hb1.out
  · cases b'
    · have Hr := Lib.hid (show execP ⟨r, e, s, g, x⟩ m o = (noC, 1) by unfold execP; rw [Hb.out, Bool.and_false, if_neg Bool.false_ne_true])
      go_enter Try.func13, Try.ntmps13
      go_wp2_with (first | (go_at_call 19; refine (Hc.out _).mono ?_; rintro e w1 ⟨rfl, hb⟩; have Hz := Lib.hid (two_blk hb); obtain ⟨c0, c1, c2, c3, c4, d0, d1, d2, d3, d4, f0, f1, f2, f3, f4, g0, g1, g2, g3, g4⟩ := two_cells hb; have Hb1 := Lib.hid hb; clear hb) | (go_at_call 21; refine (Hi.out _).mono ?_; rintro e w' ⟨rfl, rfl⟩))
      refine bodyPost_ret (res13 1 (B := w.heap.size + 1) (five (by (repeat refine Blk.far ?_ (Nat.succ_ne_self _) _); exact Hz.out) _ _ _ _ _) _ rfl rfl) rfl ⟨by rw [Hr.out]; try rfl, ?_⟩
      repeat refine Below.setCell ?_ (by simp) _
      exact base2 Hb1.out
    · cases hm : (bits .and .i64 m 2048 != 0)
      · have Hr := Lib.hid (show execP ⟨r, e, s, g, x⟩ m o = (⟨r, e, e, g, x⟩, 0) by unfold execP effP; rw [Hb.out, Bool.and_true, if_pos rfl, hm, if_neg Bool.false_ne_true])
        go_enter Try.func13, Try.ntmps13
        go_wp2_with (first | (go_at_call 19; refine (Hc.out _).mono ?_; rintro e w1 ⟨rfl, hb⟩; have Hz := Lib.hid (two_blk hb); obtain ⟨c0, c1, c2, c3, c4, d0, d1, d2, d3, d4, f0, f1, f2, f3, f4, g0, g1, g2, g3, g4⟩ := two_cells hb; have Hb1 := Lib.hid hb; clear hb) | (go_at_call 21; refine (Hi.out _).mono ?_; rintro e w' ⟨rfl, rfl⟩))
        refine bodyPost_ret (res13 0 (B := w.heap.size + 1) (five (by (repeat refine Blk.far ?_ (Nat.succ_ne_self _) _); exact Hz.out) _ _ _ _ _) _ rfl rfl) rfl ⟨by rw [Hr.out]; try rfl, ?_⟩
        repeat refine Below.setCell ?_ (by simp) _
        exact base2 Hb1.out
      · have Hr := Lib.hid (show execP ⟨r, e, s, g, x⟩ m o = (⟨r, o, o, g, x⟩, 0) by unfold execP effP; rw [Hb.out, Bool.and_true, if_pos rfl, hm, if_pos rfl])
        go_enter Try.func13, Try.ntmps13
        go_wp2_with (first | (go_at_call 19; refine (Hc.out _).mono ?_; rintro e w1 ⟨rfl, hb⟩; have Hz := Lib.hid (two_blk hb); obtain ⟨c0, c1, c2, c3, c4, d0, d1, d2, d3, d4, f0, f1, f2, f3, f4, g0, g1, g2, g3, g4⟩ := two_cells hb; have Hb1 := Lib.hid hb; clear hb) | (go_at_call 21; refine (Hi.out _).mono ?_; rintro e w' ⟨rfl, rfl⟩))
        refine bodyPost_ret (res13 0 (B := w.heap.size + 1) (five (by (repeat refine Blk.far ?_ (Nat.succ_ne_self _) _); exact Hz.out) _ _ _ _ _) _ rfl rfl) rfl ⟨by rw [Hr.out]; try rfl, ?_⟩
        repeat refine Below.setCell ?_ (by simp) _
        exact base2 Hb1.out
set_option maxHeartbeats 1000000 in
theorem rsuid_any (r e s g x u : Int) (w : World) : Calls Try.prog 15 #[.agg #[.int .i64 r, .int .i64 e, .int .i64 s, .int .i64 g, .int .i64 x], .int .i64 u] w (Ans (suidP ⟨r, e, s, g, x⟩ u) w) := by
  have hrm := right_may ⟨r, e, s, g, x⟩ u
  obtain ⟨b, hb⟩ : ∃ b, mayB ⟨r, e, s, g, x⟩ = b := ⟨_, rfl⟩
  obtain ⟨b', hb'⟩ : ∃ b, idB u = b := ⟨_, rfl⟩
  have hc0 := fun W => may_any r e s g x W
  have hi0 := fun W => id_any u W
  rw [hb, hb'] at hrm
  rw [hb] at hc0
  rw [hb'] at hi0
  have Hc := Lib.hid hc0
  have Hi := Lib.hid hi0
  have Hb := Lib.hid hrm
  clear hc0 hi0 hb hb' hrm
  cases b
  · have Hr := Lib.hid (show suidP ⟨r, e, s, g, x⟩ u = (noC, 1) by unfold suidP; rw [Hb.out, Bool.false_and, if_neg Bool.false_ne_true])
    go_enter Try.func15, Try.ntmps15
    go_wp2_with (first | (go_at_call 19; refine (Hc.out _).mono ?_; rintro e w1 ⟨rfl, hb⟩; have Hz := Lib.hid (two_blk hb); obtain ⟨c0, c1, c2, c3, c4, d0, d1, d2, d3, d4, f0, f1, f2, f3, f4, g0, g1, g2, g3, g4⟩ := two_cells hb; have Hb1 := Lib.hid hb; clear hb) | (go_at_call 21; refine (Hi.out _).mono ?_; rintro e w' ⟨rfl, rfl⟩))
    refine bodyPost_ret (res15 1 (B := w.heap.size + 1) (five (by (repeat refine Blk.far ?_ (Nat.succ_ne_self _) _); exact Hz.out) _ _ _ _ _) _ rfl rfl) rfl ⟨by rw [Hr.out]; try rfl, ?_⟩
    repeat refine Below.setCell ?_ (by simp) _
    exact base2 Hb1.out
  · cases b'
    · have Hr := Lib.hid (show suidP ⟨r, e, s, g, x⟩ u = (noC, 1) by unfold suidP; rw [Hb.out, Bool.and_false, if_neg Bool.false_ne_true])
      go_enter Try.func15, Try.ntmps15
      go_wp2_with (first | (go_at_call 19; refine (Hc.out _).mono ?_; rintro e w1 ⟨rfl, hb⟩; have Hz := Lib.hid (two_blk hb); obtain ⟨c0, c1, c2, c3, c4, d0, d1, d2, d3, d4, f0, f1, f2, f3, f4, g0, g1, g2, g3, g4⟩ := two_cells hb; have Hb1 := Lib.hid hb; clear hb) | (go_at_call 21; refine (Hi.out _).mono ?_; rintro e w' ⟨rfl, rfl⟩))
      refine bodyPost_ret (res15 1 (B := w.heap.size + 1) (five (by (repeat refine Blk.far ?_ (Nat.succ_ne_self _) _); exact Hz.out) _ _ _ _ _) _ rfl rfl) rfl ⟨by rw [Hr.out]; try rfl, ?_⟩
      repeat refine Below.setCell ?_ (by simp) _
      exact base2 Hb1.out
    · cases h0 : (e == 0)
      · have h0' : (e != 0) = true := by rw [bne, h0]; rfl
        cases h1 : (u == r)
        · have h1' : (u != r) = true := by rw [bne, h1]; rfl
          cases h2 : (u == s)
          · have h2' : (u != s) = true := by rw [bne, h2]; rfl
            have Hr := Lib.hid (show suidP ⟨r, e, s, g, x⟩ u = (noC, 2) by unfold suidP; rw [Hb.out, Bool.and_true, if_pos rfl, if_neg (ne_of_beq_false h0), if_neg (ne_of_beq_false h1), if_neg (ne_of_beq_false h2)])
            go_enter Try.func15, Try.ntmps15
            go_wp2_with (first | (go_at_call 19; refine (Hc.out _).mono ?_; rintro e w1 ⟨rfl, hb⟩; have Hz := Lib.hid (two_blk hb); obtain ⟨c0, c1, c2, c3, c4, d0, d1, d2, d3, d4, f0, f1, f2, f3, f4, g0, g1, g2, g3, g4⟩ := two_cells hb; have Hb1 := Lib.hid hb; clear hb) | (go_at_call 21; refine (Hi.out _).mono ?_; rintro e w' ⟨rfl, rfl⟩))
            refine bodyPost_ret (res15 2 (B := w.heap.size + 1) (five (by (repeat refine Blk.far ?_ (Nat.succ_ne_self _) _); exact Hz.out) _ _ _ _ _) _ rfl rfl) rfl ⟨by rw [Hr.out]; try rfl, ?_⟩
            repeat refine Below.setCell ?_ (by simp) _
            exact base2 Hb1.out
          · have h2' : (u != s) = false := by rw [bne, h2]; rfl
            have Hr := Lib.hid (show suidP ⟨r, e, s, g, x⟩ u = (⟨r, u, s, g, x⟩, 0) by unfold suidP; rw [Hb.out, Bool.and_true, if_pos rfl, if_neg (ne_of_beq_false h0), if_neg (ne_of_beq_false h1), if_pos (eq_of_beq h2)])
            go_enter Try.func15, Try.ntmps15
            go_wp2_with (first | (go_at_call 19; refine (Hc.out _).mono ?_; rintro e w1 ⟨rfl, hb⟩; have Hz := Lib.hid (two_blk hb); obtain ⟨c0, c1, c2, c3, c4, d0, d1, d2, d3, d4, f0, f1, f2, f3, f4, g0, g1, g2, g3, g4⟩ := two_cells hb; have Hb1 := Lib.hid hb; clear hb) | (go_at_call 21; refine (Hi.out _).mono ?_; rintro e w' ⟨rfl, rfl⟩))
            refine bodyPost_ret (res15 0 (B := w.heap.size + 1) (five (by (repeat refine Blk.far ?_ (Nat.succ_ne_self _) _); exact Hz.out) _ _ _ _ _) _ rfl rfl) rfl ⟨by rw [Hr.out]; try rfl, ?_⟩
            repeat refine Below.setCell ?_ (by simp) _
            exact base2 Hb1.out
        · have h1' : (u != r) = false := by rw [bne, h1]; rfl
          have Hr := Lib.hid (show suidP ⟨r, e, s, g, x⟩ u = (⟨r, u, s, g, x⟩, 0) by unfold suidP; rw [Hb.out, Bool.and_true, if_pos rfl, if_neg (ne_of_beq_false h0), if_pos (eq_of_beq h1)])
          go_enter Try.func15, Try.ntmps15
          go_wp2_with (first | (go_at_call 19; refine (Hc.out _).mono ?_; rintro e w1 ⟨rfl, hb⟩; have Hz := Lib.hid (two_blk hb); obtain ⟨c0, c1, c2, c3, c4, d0, d1, d2, d3, d4, f0, f1, f2, f3, f4, g0, g1, g2, g3, g4⟩ := two_cells hb; have Hb1 := Lib.hid hb; clear hb) | (go_at_call 21; refine (Hi.out _).mono ?_; rintro e w' ⟨rfl, rfl⟩))
          refine bodyPost_ret (res15 0 (B := w.heap.size + 1) (five (by (repeat refine Blk.far ?_ (Nat.succ_ne_self _) _); exact Hz.out) _ _ _ _ _) _ rfl rfl) rfl ⟨by rw [Hr.out]; try rfl, ?_⟩
          repeat refine Below.setCell ?_ (by simp) _
          exact base2 Hb1.out
      · have Hr := Lib.hid (show suidP ⟨r, e, s, g, x⟩ u = (⟨u, u, u, g, x⟩, 0) by unfold suidP; rw [Hb.out, Bool.and_true, if_pos rfl, if_pos (eq_of_beq h0)])
        go_enter Try.func15, Try.ntmps15
        go_wp2_with (first | (go_at_call 19; refine (Hc.out _).mono ?_; rintro e w1 ⟨rfl, hb⟩; have Hz := Lib.hid (two_blk hb); obtain ⟨c0, c1, c2, c3, c4, d0, d1, d2, d3, d4, f0, f1, f2, f3, f4, g0, g1, g2, g3, g4⟩ := two_cells hb; have Hb1 := Lib.hid hb; clear hb) | (go_at_call 21; refine (Hi.out _).mono ?_; rintro e w' ⟨rfl, rfl⟩))
        refine bodyPost_ret (res15 0 (B := w.heap.size + 1) (five (by (repeat refine Blk.far ?_ (Nat.succ_ne_self _) _); exact Hz.out) _ _ _ _ _) _ rfl rfl) rfl ⟨by rw [Hr.out]; try rfl, ?_⟩
        repeat refine Below.setCell ?_ (by simp) _
        exact base2 Hb1.out
set_option maxHeartbeats 1000000 in
theorem rsgid_any (r e s g x n : Int) (w : World) : Calls Try.prog 17 #[.agg #[.int .i64 r, .int .i64 e, .int .i64 s, .int .i64 g, .int .i64 x], .int .i64 n] w (Ans (sgidP ⟨r, e, s, g, x⟩ n) w) := by
  have hrm := right_may ⟨r, e, s, g, x⟩ n
  obtain ⟨b, hb⟩ : ∃ b, mayB ⟨r, e, s, g, x⟩ = b := ⟨_, rfl⟩
  obtain ⟨b', hb'⟩ : ∃ b, idB n = b := ⟨_, rfl⟩
  have hc0 := fun W => may_any r e s g x W
  have hi0 := fun W => id_any n W
  rw [hb, hb'] at hrm
  rw [hb] at hc0
  rw [hb'] at hi0
  have Hc := Lib.hid hc0
  have Hi := Lib.hid hi0
  have Hb := Lib.hid hrm
  clear hc0 hi0 hb hb' hrm
  cases b
  · have Hr := Lib.hid (show sgidP ⟨r, e, s, g, x⟩ n = (noC, 1) by unfold sgidP; rw [Hb.out, Bool.false_and, if_neg Bool.false_ne_true])
    go_enter Try.func17, Try.ntmps17
    go_wp2_with (first | (go_at_call 19; refine (Hc.out _).mono ?_; rintro e w1 ⟨rfl, hb⟩; have Hz := Lib.hid (two_blk hb); obtain ⟨c0, c1, c2, c3, c4, d0, d1, d2, d3, d4, f0, f1, f2, f3, f4, g0, g1, g2, g3, g4⟩ := two_cells hb; have Hb1 := Lib.hid hb; clear hb) | (go_at_call 21; refine (Hi.out _).mono ?_; rintro e w' ⟨rfl, rfl⟩))
    refine bodyPost_ret (res17 1 (B := w.heap.size + 1) (five (by (repeat refine Blk.far ?_ (Nat.succ_ne_self _) _); exact Hz.out) _ _ _ _ _) _ rfl rfl) rfl ⟨by rw [Hr.out]; try rfl, ?_⟩
    repeat refine Below.setCell ?_ (by simp) _
    exact base2 Hb1.out
  · cases b'
    · have Hr := Lib.hid (show sgidP ⟨r, e, s, g, x⟩ n = (noC, 1) by unfold sgidP; rw [Hb.out, Bool.and_false, if_neg Bool.false_ne_true])
      go_enter Try.func17, Try.ntmps17
      go_wp2_with (first | (go_at_call 19; refine (Hc.out _).mono ?_; rintro e w1 ⟨rfl, hb⟩; have Hz := Lib.hid (two_blk hb); obtain ⟨c0, c1, c2, c3, c4, d0, d1, d2, d3, d4, f0, f1, f2, f3, f4, g0, g1, g2, g3, g4⟩ := two_cells hb; have Hb1 := Lib.hid hb; clear hb) | (go_at_call 21; refine (Hi.out _).mono ?_; rintro e w' ⟨rfl, rfl⟩))
      refine bodyPost_ret (res17 1 (B := w.heap.size + 1) (five (by (repeat refine Blk.far ?_ (Nat.succ_ne_self _) _); exact Hz.out) _ _ _ _ _) _ rfl rfl) rfl ⟨by rw [Hr.out]; try rfl, ?_⟩
      repeat refine Below.setCell ?_ (by simp) _
      exact base2 Hb1.out
    · cases h0 : (e == 0)
      · have h0' : (e != 0) = true := by rw [bne, h0]; rfl
        cases h1 : (n == g)
        · have h1' : (n != g) = true := by rw [bne, h1]; rfl
          have Hr := Lib.hid (show sgidP ⟨r, e, s, g, x⟩ n = (noC, 2) by unfold sgidP; rw [Hb.out, Bool.and_true, if_pos rfl, if_neg (ne_of_beq_false h0), if_neg (ne_of_beq_false h1)])
          go_enter Try.func17, Try.ntmps17
          go_wp2_with (first | (go_at_call 19; refine (Hc.out _).mono ?_; rintro e w1 ⟨rfl, hb⟩; have Hz := Lib.hid (two_blk hb); obtain ⟨c0, c1, c2, c3, c4, d0, d1, d2, d3, d4, f0, f1, f2, f3, f4, g0, g1, g2, g3, g4⟩ := two_cells hb; have Hb1 := Lib.hid hb; clear hb) | (go_at_call 21; refine (Hi.out _).mono ?_; rintro e w' ⟨rfl, rfl⟩))
          refine bodyPost_ret (res17 2 (B := w.heap.size + 1) (five (by (repeat refine Blk.far ?_ (Nat.succ_ne_self _) _); exact Hz.out) _ _ _ _ _) _ rfl rfl) rfl ⟨by rw [Hr.out]; try rfl, ?_⟩
          repeat refine Below.setCell ?_ (by simp) _
          exact base2 Hb1.out
        · have h1' : (n != g) = false := by rw [bne, h1]; rfl
          have Hr := Lib.hid (show sgidP ⟨r, e, s, g, x⟩ n = (⟨r, e, s, g, n⟩, 0) by unfold sgidP; rw [Hb.out, Bool.and_true, if_pos rfl, if_neg (ne_of_beq_false h0), if_pos (eq_of_beq h1)])
          go_enter Try.func17, Try.ntmps17
          go_wp2_with (first | (go_at_call 19; refine (Hc.out _).mono ?_; rintro e w1 ⟨rfl, hb⟩; have Hz := Lib.hid (two_blk hb); obtain ⟨c0, c1, c2, c3, c4, d0, d1, d2, d3, d4, f0, f1, f2, f3, f4, g0, g1, g2, g3, g4⟩ := two_cells hb; have Hb1 := Lib.hid hb; clear hb) | (go_at_call 21; refine (Hi.out _).mono ?_; rintro e w' ⟨rfl, rfl⟩))
          refine bodyPost_ret (res17 0 (B := w.heap.size + 1) (five (by (repeat refine Blk.far ?_ (Nat.succ_ne_self _) _); exact Hz.out) _ _ _ _ _) _ rfl rfl) rfl ⟨by rw [Hr.out]; try rfl, ?_⟩
          repeat refine Below.setCell ?_ (by simp) _
          exact base2 Hb1.out
      · have h0' : (e != 0) = false := by rw [bne, h0]; rfl
        have Hr := Lib.hid (show sgidP ⟨r, e, s, g, x⟩ n = (⟨r, e, s, n, n⟩, 0) by unfold sgidP; rw [Hb.out, Bool.and_true, if_pos rfl, if_pos (eq_of_beq h0)])
        go_enter Try.func17, Try.ntmps17
        go_wp2_with (first | (go_at_call 19; refine (Hc.out _).mono ?_; rintro e w1 ⟨rfl, hb⟩; have Hz := Lib.hid (two_blk hb); obtain ⟨c0, c1, c2, c3, c4, d0, d1, d2, d3, d4, f0, f1, f2, f3, f4, g0, g1, g2, g3, g4⟩ := two_cells hb; have Hb1 := Lib.hid hb; clear hb) | (go_at_call 21; refine (Hi.out _).mono ?_; rintro e w' ⟨rfl, rfl⟩))
        refine bodyPost_ret (res17 0 (B := w.heap.size + 1) (five (by (repeat refine Blk.far ?_ (Nat.succ_ne_self _) _); exact Hz.out) _ _ _ _ _) _ rfl rfl) rfl ⟨by rw [Hr.out]; try rfl, ?_⟩
        repeat refine Below.setCell ?_ (by simp) _
        exact base2 Hb1.out
end Go.Proofs.Ytgcnjnjdjldfoaa
