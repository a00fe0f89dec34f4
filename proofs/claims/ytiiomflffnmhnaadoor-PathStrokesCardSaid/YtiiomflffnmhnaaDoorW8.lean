/- Contract of the document's Same. -/
import Derived.Test.YtiiomflffnmhnaaDoorW7
namespace Go.Proofs.YtiiomflffnmhnaaDoor
open Go.RowKit Go.Shelf

/-- a slice that reads as these texts. -/
def Rd (w : World) (v : Value) (l : List (List UInt8)) : Prop :=
  ∃ p cap, v = .slice p l.length cap ∧ l.length ≤ cap ∧ cap ≤ maxLen ∧ ∀ j x, l[j]? = some x → ∃ g, p = some ⟨g, 0, none⟩ ∧ w.cell? ⟨g, j, none⟩ = some (strV x)
theorem Rd.of_row {w : World} {base : Nat} {v : Value} {l : List (List UInt8)} (h : w.ownsRow base 9 1 v l.length (l.map strV)) : Rd w v l := by
  rcases h.2 with ⟨hv, h0⟩ | ⟨g, cap, cur, hv, hb, hg, hn, hc, hs, ht⟩
  · have := List.length_eq_zero_iff.1 h0
    subst this
    exact ⟨none, 0, hv, Nat.le_refl _, Nat.zero_le _, fun j x hx => by simp at hx⟩
  · refine ⟨_, cap, hv, hn, hc, fun j x hx => ⟨g, rfl, ?_⟩⟩
    subst hv
    have hj := (List.getElem?_eq_some_iff.1 hx).1
    rw [h.cellAt j (by omega), List.getElem?_map, hx]; rfl
theorem Rd.draw {w w' : World} {v : Value} {l : List (List UInt8)} (h : Rd w v l) (hd : Dr w w') : Rd w' v l := by
  obtain ⟨n, rfl⟩ := hd; exact h
theorem cell_lt {w : World} {g j : Nat} {v : Value} (hc : w.cell? ⟨g, j, none⟩ = some v) : g < w.heap.size := by
  unfold World.cell? at hc
  cases ho : w.heap[g]? with
  | none => simp [ho] at hc
  | some o => exact (Array.getElem?_eq_some_iff.1 ho).1
theorem Rd.below {w w' : World} {v : Value} {l : List (List UInt8)} (h : Rd w v l) (hb : Below w.heap.size w w') : Rd w' v l := by
  obtain ⟨p, cap, hv, h1, h2, h3⟩ := h
  refine ⟨p, cap, hv, h1, h2, fun j x hx => ?_⟩
  obtain ⟨g, hp, hc⟩ := h3 j x hx
  exact ⟨g, hp, (hb.cell (p := ⟨g, j, none⟩) (cell_lt hc)).trans hc⟩
def sameRel (a b : List (List UInt8)) (w : World) (i : Value) (wr : World) : Prop := ∃ k : Nat, k ≤ a.length ∧ i = .int .i64 k ∧ Dr w wr ∧ a.take k = b.take k
theorem same_step {a b : List (List UInt8)} {k : Nat} {x : List UInt8} (hx : a[k]? = some x) (hy : b[k]? = some x) (h : a.take k = b.take k) : a.take (k + 1) = b.take (k + 1) := by
  rw [List.take_add_one, List.take_add_one, h, hx, hy]
theorem same_stop {a b : List (List UInt8)} {k : Nat} {x y : List UInt8} (hx : a[k]? = some x) (hy : b[k]? = some y) (h : x ≠ y) : decide (a = b) = false :=
  decide_eq_false (fun e => by subst e; rw [hx] at hy; exact h (Option.some.inj hy))
theorem same_end {a b : List (List UInt8)} {k : Nat} (h1 : a.length = k) (h2 : b.length = k) (h : a.take k = b.take k) : decide (a = b) = true := by
  rw [List.take_of_length_le (by omega), List.take_of_length_le (by omega)] at h
  exact decide_eq_true h
set_option maxHeartbeats 1000000 in
theorem same_any (v u : Value) (a b : List (List UInt8)) (w : World) (hv : Rd w v a) (hu : Rd w u b) :
    Calls Tryd.prog 13 #[v, u] w fun e w' => e = .returned (.bool (decide (a = b))) ∧ Dr w w' := by
  obtain ⟨p, cap, rfl, h1, h2, hc⟩ := hv
  obtain ⟨p', cap', rfl, h1', h2', hc'⟩ := hu
  have HC := Lib.hid hc
  have HC' := Lib.hid hc'
  obtain ⟨n, hn⟩ : ∃ n, a.length = n := ⟨_, rfl⟩
  obtain ⟨m, hm⟩ : ∃ m, b.length = m := ⟨_, rfl⟩
  have hmax : n ≤ maxLen := by omega
  unfold maxLen at hmax
  rw [hn, hm]
  clear h1 h2 h1' h2' hc hc'
  by_cases hl : n = m
  · subst hl
    have Hn := Lib.hid hn
    have Hm := Lib.hid hm
    clear hn hm
    go_enter Tryd.func13, Tryd.ntmps13
    go_wp2
    go_loopw [5] (fun i wr => sameRel a b w i wr) (fun i _ => n - (intOf i).toNat)
    case atStart => exact ⟨0, Nat.zero_le _, rfl, Dr.refl _, rfl⟩
    case round =>
      obtain ⟨k, hk, rfl, ⟨nw, rfl⟩, ht⟩ := hrel
      rw [Hn.out] at hk
      have Ht := Lib.hid ht
      clear ht
      by_cases hlt : k < n
      · obtain ⟨x, hx⟩ : ∃ x, a[k]? = some x := ⟨_, List.getElem?_eq_getElem (by rw [Hn.out]; exact hlt)⟩
        obtain ⟨y, hy⟩ : ∃ y, b[k]? = some y := ⟨_, List.getElem?_eq_getElem (by rw [Hm.out]; exact hlt)⟩
        obtain ⟨g, rfl, ca⟩ := HC.out k x hx
        obtain ⟨g', rfl, cb⟩ := HC'.out k y hy
        unfold strV at ca cb
        by_cases hxy : x = y
        · subst hxy
          have Hs := Lib.hid (same_step hx hy Ht.out)
          clear hx hy
          go_wp2
          go_quiet (fail)
          go_wp2
          go_roundw
          case rel => exact ⟨k + 1, by rw [Hn.out]; omega, by go_num, ⟨_, rfl⟩, Hs.out⟩
          case measure => simp [intOf]; omega
        · have Hs := Lib.hid (same_stop hx hy hxy)
          have hb : (x == y) = false := beq_eq_false_iff_ne.2 hxy
          clear hx hy hxy
          go_wp2
          go_quiet (fail)
          go_wp2
          go_ret
          exact ⟨ret_bool Hs.out.symm, nw + nq, World.drewN_drewN ..⟩
      · have hkn : k = n := by omega
        subst hkn
        have Hs := Lib.hid (same_end Hn.out Hm.out Ht.out)
        go_wp2
        go_ret
        exact ⟨ret_bool Hs.out.symm, nw, rfl⟩
  · have Hs := Lib.hid (show decide (a = b) = false from decide_eq_false (fun e => hl (by rw [← hn, ← hm, e])))
    have hb : (((n : Int) != (m : Int)) : Bool) = true := by rw [bne_iff_ne]; omega
    clear hn hm
    go_enter Tryd.func13, Tryd.ntmps13
    go_wp2
    go_ret
    exact ⟨ret_bool Hs.out.symm, Dr.refl _⟩
end Go.Proofs.YtiiomflffnmhnaaDoor
