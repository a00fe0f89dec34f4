/- Walk of the law PwfileParses. -/
import Derived.Test.YtjopmchbphjliaaGreatDoorRO
import Derived.Test.YtjopmchbphjliaaGreatDoorZ0
namespace Go.Proofs.YtjopmchbphjliaaGreatDoor
open Go.RowKit Go.Shelf

theorem rparse_at (s : ByteArray) (hs : s.size ≤ maxLen) (us : List Usr) (k e : Nat) (hp : parseR s = (us, k, e)) (w : World) :
    Calls Tryz.prog 7 #[.string s] w fun x w' => ∃ p cap, x = .returned (.tuple #[.slice p us.length cap, .int .i64 (k : Int), .int .i64 (e : Int)]) ∧
      w'.ownsRow w.heap.size 29 6 (.slice p us.length cap) us.length (usCells us) ∧ Below w.heap.size w w' := by
  refine (rparse_any s hs w).mono ?_
  rintro x w' ⟨v, rfl, hrow, hb⟩
  rw [hp] at hrow ⊢
  obtain ⟨p, cap, rfl⟩ := row_slice hrow
  exact ⟨p, cap, rfl, hrow, hb⟩
def twR (x : World) (i : Value) (wr : World) : Prop := ∃ t : Nat, t ≤ 2 ∧ i = .int .i64 t ∧ Below x.heap.size x wr
set_option maxRecDepth 100000 in
set_option maxHeartbeats 6400000 in
theorem parses_walk (s : ByteArray) (hreach : s.size ≤ 140737488351232) (w : World) (henv : Env w) :
    Calls Tryz.prog 3 #[.string s] w fun e w' => e = .returned (.bool true) ∧ Below w.heap.size w w' := by
  have hs := small_max s hreach
  have csh := shown_any w henv
  obtain ⟨⟨us, k, e⟩, hp⟩ : ∃ r, parseR s = r := ⟨_, rfl⟩
  have c1 := fun w1 h => parse_at s hs us k e hp w1 h
  have c2 := fun w1 => rparse_at s hs us k e hp w1
  have hru := parse_rightU hp
  have C1 := Lib.hid c1
  have C2 := Lib.hid c2
  have Hru := Lib.hid hru
  have Henv := Lib.hid henv
  clear c1 c2 hru hp henv hreach hs
  obtain ⟨n, hn⟩ : ∃ n, us.length = n := ⟨_, rfl⟩
  have Hn := Lib.hid hn
  rw [hn] at C1 C2
  clear hn
  go_enter Tryz.func3, Tryz.ntmps3
  go_wp2_with fail
  refine csh.mono ?_
  rintro x w1 ⟨rfl, hb1⟩
  clear csh
  go_wp2_with fail
  refine (C2.out w1).mono ?_
  rintro x w2 ⟨q, c, rfl, hrow, hz⟩
  have hb2 := next hb1 hb1.size hz
  obtain ⟨hin, -, hcap, hcm⟩ := InUsers.of_row (Hn.out.symm ▸ hrow) (fun u hu => right_ok (Hru.out u hu))
  have Hin := Lib.hid hin
  have Hb2 := Lib.hid hb2
  clear hrow hz hin hb1 hb2 C2
  go_wp2
  go_loopw [7] (fun i wr => twR w2 i wr) (fun i _ => 2 - (intOf i).toNat)
  case atStart => exact ⟨0, by decide, rfl, Below.refl _ _⟩
  case round =>
    obtain ⟨t, ht, rfl, hX⟩ := hrel
    generalize wr = x0 at hX ⊢
    by_cases htl : t < 2
    · have henvr := (Henv.out.below Hb2.out).below (hX.mono (Nat.le_refl _))
      have HX := Lib.hid hX
      clear hX
      go_wp2_with fail
      refine (C1.out x0 henvr).mono ?_
      rintro x w3 ⟨q3, c3, rfl, hrow, hz⟩
      obtain ⟨hin3, -, hcap3, hcm3⟩ := InUsers.of_row (Hn.out.symm ▸ hrow) (fun u hu => right_ok (Hru.out u hu))
      have hb3 := next HX.out HX.out.size hz
      have csm := same_any q3 q us.length us.length c3 c us us w3 hin3 (Hin.out.below hb3 (Nat.le_refl _)) (Nat.le_trans hcap3 hcm3) (Nat.le_trans hcap3 hcm3)
      rw [(sameS_iff us us).2 rfl, Hn.out] at csm
      have Hrow := Lib.hid hrow
      have Hz := Lib.hid hz
      rw [Hn.out] at hcap3
      unfold maxLen at hcm3
      clear henvr hrow hin3 hb3 hz
      go_wp2_with fail
      refine csm.mono ?_
      rintro x w4 ⟨rfl, hd⟩
      have hz4 := dr_below hd
      have hrow4 := row_below Hrow.out hz4
      have hz34 := next Hz.out Hz.out.size hz4
      have Hrow4 := Lib.hid hrow4
      have Hz34 := Lib.hid hz34
      clear csm hd hz4 hrow4 hz34 Hrow Hz
      go_wp2
      go_loopw [12] (fun i wr2 => loRel x0.heap.size x0 q3 n c3 i wr2) (fun i _ => n - (intOf i).toNat)
      case atStart => exact ⟨0, Nat.zero_le _, rfl, Hz34.out, _, Hrow4.out⟩
      case round =>
        obtain ⟨j, hj, rfl, hX2, xs, hrow⟩ := hrel
        have HX2 := Lib.hid hX2
        clear hX2
        by_cases hlt : j < n
        · obtain ⟨g, rfl, hg⟩ : ∃ g, q3 = some ⟨g, 0, none⟩ ∧ x0.heap.size ≤ g := by
            rcases hrow.2 with ⟨_, h0⟩ | ⟨g, _, _, h, hg, _⟩
            · omega
            · cases h; exact ⟨g, rfl, hg⟩
          obtain ⟨v0, c0⟩ := row_some hrow (j * 6) (by omega)
          obtain ⟨v1, c1⟩ := row_some hrow (j * 6 + 1) (by omega)
          obtain ⟨v2, c2⟩ := row_some hrow (j * 6 + 2) (by omega)
          obtain ⟨v3, c3'⟩ := row_some hrow (j * 6 + 3) (by omega)
          obtain ⟨v4, c4⟩ := row_some hrow (j * 6 + 4) (by omega)
          obtain ⟨v5, c5⟩ := row_some hrow (j * 6 + 5) (by omega)
          have f0 := hrow.frozenAt (j * 6)
          have f1 := hrow.frozenAt (j * 6 + 1)
          have f2 := hrow.frozenAt (j * 6 + 2)
          have f3 := hrow.frozenAt (j * 6 + 3)
          have f4 := hrow.frozenAt (j * 6 + 4)
          have f5 := hrow.frozenAt (j * 6 + 5)
          have hrow2 := wipe_row hrow (j * 6) (.string ⟨#[]⟩) (.string ⟨#[]⟩) (.int .i64 0) (.int .i64 0) (.string ⟨#[]⟩) (.string ⟨#[]⟩)
          have hX3 := HX2.out.trans (wipe_below hg (j * 6) (W := wr) (.string ⟨#[]⟩) (.string ⟨#[]⟩) (.int .i64 0) (.int .i64 0) (.string ⟨#[]⟩) (.string ⟨#[]⟩))
          have Hrow2 := Lib.hid hrow2
          have HX3 := Lib.hid hX3
          clear hrow hrow2 hX3 Hrow4
          go_wp2
          go_roundw
          case rel => exact ⟨j + 1, by omega, by go_num, HX3.out, Hrow2.out⟩
          case measure => simp [intOf]; omega
        · obtain rfl : j = n := by omega
          have hXf := next HX.out HX.out.size HX2.out
          clear hrow Hrow4
          go_wp2
          go_roundw
          case rel => exact ⟨t + 1, by omega, by go_num, hXf⟩
          case measure => simp [intOf]; omega
    · go_wp2
      go_ret
      exact ⟨rfl, next Hb2.out Hb2.out.size hX⟩
end Go.Proofs.YtjopmchbphjliaaGreatDoor
