/- The walk of the law PathSplits. -/
import Derived.Test.YtiiomflffnmhnaaDoorX7
namespace Go.Proofs.YtiiomflffnmhnaaDoor
open Go.RowKit Go.Shelf
set_option linter.unusedVariables false

theorem ref_of (s : ByteArray) (hs : s.size ≤ 1048576) (k : Nat) (ns : List (List UInt8)) (a d : Bool) (n : Nat) (hE : splE s.data.toList = k) (hN : splN s.data.toList = ns) (hn : ns.length = n) (hA : splAbs s.data.toList = a) (hD : splDir s.data.toList = d) (w : World) :
    Calls Tryd.prog 11 #[.string s] w fun e w' => ∃ p cap, e = .returned (.tuple #[.agg #[.bool a, .slice p n cap, .bool d], .int .i64 k]) ∧
      (Hid (w'.ownsRow w.heap.size 9 1 (.slice p n cap) n (ns.map strV)) ∧ Below w.heap.size w w') :=
  (refSplit_any s hs w).mono fun e w' h => by
    obtain ⟨v, he, hr, hb⟩ := h
    obtain ⟨p, cap, rfl⟩ := row_slice hr
    rw [hN, hn] at hr he
    refine ⟨p, cap, ?_, Lib.hid hr, hb⟩
    rw [he]; unfold splitV; rw [hE, hA, hD]
theorem alloc_b (W : World) (o : Obj) : Below W.heap.size W (W.alloc o) := (Below.refl _ _).alloc (Nat.le_refl _) _
def twRel (W0 : World) (iv : Value) (wr : World) : Prop := ∃ t : Nat, t ≤ 2 ∧ iv = .int .i64 t ∧ Below W0.heap.size W0 wr
def ovRel (B7 n : Nat) (sl a d : Value) (wr : World) (iv : Value) (w2 : World) : Prop :=
  ∃ (i : Nat) (xs : List Value), i ≤ n ∧ iv = .int .i64 i ∧ w2.ownsRow wr.heap.size 9 1 sl n xs ∧ Blk w2 B7 29 #[a, sl, d] ∧ Below wr.heap.size wr w2
theorem ov_step {B7 n i g cap : Nat} {a d : Value} {wr w2 : World} {xs : List Value} (hi : i < n) (hB7 : wr.heap.size ≤ B7) (hown : w2.ownsRow wr.heap.size 9 1 (.slice (some ⟨g, 0, none⟩) n cap) n xs) (hb : Blk w2 B7 29 #[a, .slice (some ⟨g, 0, none⟩) n cap, d])
    (hbel : Below wr.heap.size wr w2) (v : Value) : ovRel B7 n (.slice (some ⟨g, 0, none⟩) n cap) a d wr (.int .i64 ((i : Int) + 1)) (w2.setCell ⟨g, i, none⟩ v) := by
  have hg := hown.lt g rfl
  have hne : B7 ≠ g := fun e => by
    subst e
    exact hb.not_row (by decide) hown rfl
  exact ⟨i + 1, _, by omega, by go_num, (hown.stored i v).1, hb.other _ _ _ hne, hbel.setCell (p := ⟨g, i, none⟩) hg.1 _⟩
theorem own_some {w : World} {base : Nat} {p : Option Addr} {n cap : Nat} {xs : List Value} (h : w.ownsRow base 9 1 (.slice p n cap) n xs) (hn : 0 < n) : ∃ g, p = some ⟨g, 0, none⟩ := by
  rcases h.2 with ⟨_, h0⟩ | ⟨g, c, _, hv, _⟩
  · omega
  · exact ⟨g, (Value.slice.inj hv).1⟩
set_option maxRecDepth 100000 in
set_option maxHeartbeats 3000000 in
theorem splits_walk (s : ByteArray) (hs : s.size ≤ 1048576) (w : World) :
    Calls Tryd.prog 3 #[.string s] w fun e w' => e = .returned (.bool true) ∧ Below w.heap.size w w' := by
  have hm : s.size ≤ maxLen := by unfold maxLen; omega
  obtain ⟨k, hk⟩ : ∃ k, splE s.data.toList = k := ⟨_, rfl⟩
  obtain ⟨ns, hns⟩ : ∃ ns, splN s.data.toList = ns := ⟨_, rfl⟩
  obtain ⟨n, hn⟩ : ∃ n, ns.length = n := ⟨_, rfl⟩
  obtain ⟨a, ha⟩ : ∃ a, splAbs s.data.toList = a := ⟨_, rfl⟩
  obtain ⟨d, hd⟩ : ∃ d, splDir s.data.toList = d := ⟨_, rfl⟩
  have H1 := Lib.hid (fun w : World => ref_of s hs k ns a d n hk hns hn ha hd w)
  have H2 := Lib.hid (fun w : World => split_of s hm k ns a d n hk hns hn ha hd w)
  have hnm : n ≤ 1048577 := by
    by_cases h0 : k = 0
    · have h1 := len_nam s.data.toList
      have h2 := (ok_all (hk.trans h0)).1
      rw [← h2, hns, hn, size_len] at h1; omega
    · have := (err_all hk h0).1
      rw [hns] at this; subst this; simp at hn; omega
  have Hn := Lib.hid hn
  clear hk hns hn ha hd
  go_enter Tryd.func3, Tryd.ntmps3
  go_wp2_with (first | (go_at_call 10; refine (shown_any _).mono ?_; rintro e w0 ⟨rfl, hb0⟩) | (go_at_call 11; (with_reducible refine (H1.out _).mono ?_); rintro e w2 ⟨p, cap, rfl, hr, hb1⟩))
  have A0 := (hb0.trans (hb1.mono hb0.size)).alloc (Nat.le_trans hb0.size hb1.size) (.cells #[.bool a, .slice p n cap, .bool d] 25)
  have b4 := Blk.new w2 25 #[.bool a, .slice p n cap, .bool d]
  have r4 : Rd (w2.alloc (.cells #[.bool a, .slice p n cap, .bool d] 25)) (.slice p n cap) ns := by
    have hrr := hr.out
    rw [← Hn.out] at hrr ⊢
    exact (Rd.of_row hrr).below (alloc_b _ _)
  have l4 := b4.lt
  obtain ⟨B4, hB4⟩ : ∃ B4, w2.heap.size = B4 := ⟨_, rfl⟩
  rw [hB4] at b4 l4 ⊢
  clear hb0 hb1 hr hB4 H1
  generalize w2.alloc (.cells #[.bool a, .slice p n cap, .bool d] 25) = W0 at *
  go_loopw [6] (fun iv wr => twRel W0 iv wr) (fun iv _ => 2 - (intOf iv).toNat)
  case atStart => exact ⟨0, by decide, rfl, Below.refl _ _⟩
  case round =>
    obtain ⟨t, ht, rfl, hbel⟩ := hrel
    by_cases hlt : t < 2
    · go_wp2_with fail
      refine (H2.out _).mono ?_
      rintro e w3 ⟨p7, cap7, rfl, hr7, hb7⟩
      have e4 := (b4.below (hbel.trans (hb7.mono hbel.size)) l4).cell 1
      simp only [List.getElem?_toArray, List.getElem?_cons_zero, List.getElem?_cons_succ] at e4
      have l43 : B4 < w3.heap.size := Nat.lt_of_lt_of_le l4 (Nat.le_trans hbel.size hb7.size)
      go_wp2_with fail
      have hbw : Below W0.heap.size W0 (w3.alloc (.cells #[.bool a, .slice p7 n cap7, .bool d] 29)) := (hbel.trans (hb7.mono hbel.size)).alloc (Nat.le_trans hbel.size hb7.size) _
      have hbr : Below wr.heap.size wr (w3.alloc (.cells #[.bool a, .slice p7 n cap7, .bool d] 29)) := hb7.alloc hb7.size _
      have b7 := Blk.new w3 29 #[.bool a, .slice p7 n cap7, .bool d]
      have o7 := hr7.out.alloc (.cells #[.bool a, .slice p7 n cap7, .bool d] 29)
      have r7 : Rd (w3.alloc (.cells #[.bool a, .slice p7 n cap7, .bool d] 29)) (.slice p7 n cap7) ns := Rd.of_own o7 Hn.out rfl
      have b4' := b4.below hbw l4
      have r4' := r4.below hbw
      have s7 := hb7.size
      obtain ⟨B7, hB7⟩ : ∃ B7, w3.heap.size = B7 := ⟨_, rfl⟩
      rw [hB7] at b7 s7 ⊢
      clear hb7 hr7 hB7 e4 l43
      generalize w3.alloc (.cells #[.bool a, .slice p7 n cap7, .bool d] 29) = W3 at *
      have c0 := b7.cell 0
      have c1 := b7.cell 1
      have c2 := b7.cell 2
      have e0 := b4'.cell 0
      have e1 := b4'.cell 1
      have e2 := b4'.cell 2
      simp only [List.getElem?_toArray, List.getElem?_cons_zero, List.getElem?_cons_succ] at c0 c1 c2 e0 e1 e2
      have o7H := Lib.hid o7
      clear o7
      refine (same_any _ _ ns ns _ r7 r4').mono ?_
      rintro e w5 ⟨rfl, nd, rfl⟩
      rw [decide_eq_true rfl]
      go_wp2
      go_loopw [10] (fun iv w2 => ovRel B7 n (.slice p7 n cap7) (.bool a) (.bool d) wr iv w2) (fun iv _ => n - (intOf iv).toNat)
      case atStart => exact ⟨0, ns.map strV, Nat.zero_le _, rfl, o7H.out, b7, below_drewN hbr nd⟩
      case round =>
        obtain ⟨i, xs, hi, rfl, hown, hP, hbi⟩ := hrel
        have q1 := hP.cell 1
        simp only [List.getElem?_toArray, List.getElem?_cons_zero, List.getElem?_cons_succ] at q1
        by_cases hin : i < n
        · obtain ⟨g, rfl⟩ := own_some hown (by omega)
          have hlen : xs.length = n := by have := hown.1; omega
          obtain ⟨y, hy⟩ : ∃ y, xs[i]? = some y := ⟨_, List.getElem?_eq_getElem (by omega)⟩
          have hcy := (hown.cellAt i (by omega)).trans hy
          have hfy := hown.frozenAt i
          have R := ov_step hin s7 hown hP hbi (.string ⟨#[63]⟩)
          clear hy hlen hown
          go_wp2
          go_roundw
          case rel => exact R
          case measure => simp [intOf]; omega
        · have hbe := hbel.trans (hbi.mono hbel.size)
          clear hown
          go_wp2
          go_roundw
          case rel => exact ⟨t + 1, by omega, by go_num, hbe⟩
          case measure => simp [intOf]; omega
    · go_wp2
      go_ret
      exact ⟨rfl, A0.trans (hbel.mono A0.size)⟩
end Go.Proofs.YtiiomflffnmhnaaDoor
