/- LJ: several texts in one. -/
import Derived.Test.YtakceopobgommaaM17
import Derived.Test.YtakceopobgommaaM18

/- The walk of InodeFiles. -/
namespace Go.Proofs.Ytakceopobgommaa
open Go.RowKit Ino Go.Maps
set_option linter.unusedVariables false
set_option linter.unusedSimpArgs false

theorem he_putAt {row s : Bs} {i n h k : Nat} (hk : k ≤ row.length) : putP (heT row i n h) 2 k s = if (4096 : Int) - k < s.length then (heT row i n h, 9) else (heT (row.take k ++ (s ++ row.drop (k + s.length))) i n h, 0) := by
  have hf : fileE (heT row i n h) 2 = 0 := by
    unfold fileE
    rw [if_pos he_is2, show (2 : Int).toNat = 2 from rfl, he_2]; rfl
  unfold putP
  rw [if_neg (fun e => e hf), show (2 : Int).toNat = 2 from rfl, he_2, if_neg (by show ¬ ((k : Int) < 0 ∨ ((row.length : Nat) : Int) < k); omega)]
  by_cases h4 : (4096 : Int) - k < s.length
  · rw [if_pos h4, if_pos h4]
  · rw [if_neg h4, if_neg h4]
    refine congrArg (·, 0) (he_ext ?_ ?_ fun j h1 h2 => ?_)
    · rw [upd_other _ _ (by decide), he_1]
    · rw [upd_same, Int.toNat_natCast]
    · rw [upd_other _ _ h2, he_o h1 h2]
theorem he_putX {row s : Bs} {i n h : Nat} : putP (heT row i n h) 2 ((row.length : Int) + 1) s = (heT row i n h, 1) := by
  have hf : fileE (heT row i n h) 2 = 0 := by
    unfold fileE
    rw [if_pos he_is2, show (2 : Int).toNat = 2 from rfl, he_2]; rfl
  unfold putP
  rw [if_neg (fun e => e hf), show (2 : Int).toNat = 2 from rfl, he_2, if_pos (.inr (by show ((row.length : Nat) : Int) < (row.length : Int) + 1; omega))]
theorem he_cut {row : Bs} {i n h : Nat} : cutP (heT row i n h) 2 = (heT [] i n h, 0) := by
  have hf : fileE (heT row i n h) 2 = 0 := by
    unfold fileE
    rw [if_pos he_is2, show (2 : Int).toNat = 2 from rfl, he_2]; rfl
  unfold cutP
  rw [if_neg (fun e => e hf), show (2 : Int).toNat = 2 from rfl, he_2]
  refine congrArg (·, 0) (he_ext ?_ ?_ fun j h1 h2 => ?_)
  · rw [upd_other _ _ (by decide), he_1]
  · rw [upd_same]
  · rw [upd_other _ _ h2, he_o h1 h2]
theorem want_short (r s : ByteArray) (k : Nat) (hk : k ≤ r.size) : (r.extract 0 k ++ s ++ r.extract (k + s.size) r.size).data.toList = r.data.toList.take k ++ (s.data.toList ++ r.data.toList.drop (k + s.data.toList.length)) := by
  have hs : s.data.toList.length = s.size := by simp
  rw [hs]
  have := congrArg (fun b : ByteArray => b.data.toList) (put_str r.data.toList s k)
  simp only at this
  have hl : r.data.toList.length = r.size := by simp
  rw [str_back, hl] at this
  rw [this]
theorem want_long (r s : ByteArray) (k : Nat) (hk : k ≤ r.size) (h : r.size ≤ k + s.size) : (r.extract 0 k ++ s).data.toList = r.data.toList.take k ++ (s.data.toList ++ r.data.toList.drop (k + s.data.toList.length)) := by
  have hs : s.data.toList.length = s.size := by simp
  have hl : r.data.toList.length = r.size := by simp
  rw [hs, List.drop_of_length_le (by rw [hl]; exact h), List.append_nil]
  simp [List.extract]
def filRel (w : World) (A : Nat) (rv iv : Value) (wr : World) : Prop := ∃ (k : Nat) (r : ByteArray), iv = .int .i64 k ∧ k ≤ 30 ∧ rv = .string r ∧ r.size ≤ 4096 ∧ PS w wr A (heT r.data.toList 0 0 1) ∧ Sound (heT r.data.toList 0 0 1)
set_option maxHeartbeats 8000000 in
set_option maxRecDepth 100000 in
theorem files_walk (p0 : Option Addr) (n0 c0 : Nat) (z0 : List ByteArray) (p1 : Option Addr) (n1 c1 : Nat) (z1 : List Int) (w : World) (h0 : InStrs w p0 n0 z0) (l0 : n0 ≤ maxLen) (h1 : InInts w p1 n1 z1) (l1 : n1 ≤ maxLen) :
    Calls Try.prog 5 #[.slice p0 n0 c0, .slice p1 n1 c1] w fun e w' => e = .returned (.bool true) ∧ Below w.heap.size w w' := by
  have H0 := Lib.hid h0
  have H1 := Lib.hid h1
  unfold maxLen at l0 l1
  clear h0 h1
  have s_mk := he_make
  rw [show true = rMake 0 420 1 1 0 by decide] at s_mk
  have hs1 : Sound (heT [] 0 0 1) := by
    have := sound_make s_sd0 (rMake 0 420 1 1 0) 0 420 1 1 0 (fun _ => .inl rfl)
    rw [s_mk] at this
    exact this
  have HMK := Lib.hid s_mk
  have HS1 := Lib.hid hs1
  clear s_mk hs1
  go_enter Try.func5, Try.ntmps5
  go_wp2_with (first
    | (go_at_call 9; refine (shown_any _).mono ?_; rintro e w1 ⟨rfl, b1⟩)
    | (go_at_call 10; refine (ps_new b1 493 0 0 (by unfold wfI; omega) (by decide)).mono ?_; rintro e w2 ⟨A, rfl, p2⟩)
    | (go_at_call 18; refine (ps_make_at p2 s_sd0.sd 0 420 1 1 0 (by unfold wfI; omega) HMK.out (z := 2) (cz := 0) rfl rfl).mono ?_; rintro e w3 ⟨rfl, p3⟩))
  go_loopw [9, 10] (fun rv iv wr => filRel w A rv iv wr) (fun _ iv _ => 30 - (intOf iv).toNat)
  case atStart => exact ⟨0, ⟨#[]⟩, rfl, by decide, rfl, by decide, p3, HS1.out⟩
  case round =>
    obtain ⟨k, r, rfl, hk, rfl, hr, hp, hso⟩ := hrel
    have HSO := Lib.hid hso
    by_cases hlt : k < n0 ∧ k < n1 ∧ k < 30
    · obtain ⟨k0, k1, k2⟩ := hlt
      have hz0 : z0[k]? = some (z0[k]'(by rw [H0.out.1]; exact k0)) := List.getElem?_eq_getElem _
      have hz1 : z1[k]? = some (z1[k]'(by rw [H1.out.1]; exact k1)) := List.getElem?_eq_getElem _
      obtain ⟨g0, o0, rfl, d0, s0⟩ := H0.out.2 k _ hz0
      obtain ⟨g1, o1, rfl, d1, wz⟩ := H1.out.2 k _ hz1
      generalize z0[k]'(by rw [H0.out.1]; exact k0) = s1 at hz0 d0 s0
      generalize z1[k]'(by rw [H1.out.1]; exact k1) = z at hz1 d1 wz
      have hzb := int_wf wz
      unfold maxLen at s0
      have e0 : wr.cell? ⟨g0, o0 + k, none⟩ = some (.string s1) := (World.cell?_of_block (hp.below.block g0 (cell_lt d0))).trans d0
      have e1 : wr.cell? ⟨g1, o1 + k, none⟩ = some (.int .i64 z) := (World.cell?_of_block (hp.below.block g1 (cell_lt d1))).trans d1
      have i1 : (0 : Int) ≤ (k : Int) := by omega
      have i2 : (k : Int) < n0 := by omega
      have i3 : (k : Int) < n1 := by omega
      clear hz0 hz1 d0 d1 wz
      obtain ⟨x, hx, hcase⟩ : ∃ x : Nat, x ≤ r.size ∧ ((0 ≤ z ∧ z.tmod ((r.size : Int) + 1) = x) ∨ (z < 0 ∧ (z + 1).tmod ((r.size : Int) + 1) = -(x : Int) ∧ (-(z + 1)).tmod ((r.size : Int) + 1) = x)) := by
        by_cases h0 : 0 ≤ z
        · obtain ⟨m, rfl⟩ : ∃ m : Nat, z = m := ⟨z.toNat, by omega⟩
          exact ⟨m % (r.size + 1), by have := Nat.mod_lt m (show 0 < r.size + 1 by omega); omega, .inl ⟨h0, rfl⟩⟩
        · obtain ⟨m, hm⟩ : ∃ m : Nat, -(z + 1) = m := ⟨(-(z + 1)).toNat, by omega⟩
          have h1 : (-(z + 1)).tmod ((r.size : Int) + 1) = ((m % (r.size + 1) : Nat) : Int) := by rw [hm]; rfl
          refine ⟨m % (r.size + 1), by have := Nat.mod_lt m (show 0 < r.size + 1 by omega); omega, .inr ⟨by omega, ?_, h1⟩⟩
          rw [Int.neg_tmod] at h1
          omega
      obtain ⟨s, hsz, hbig⟩ : ∃ s : ByteArray, s.size ≤ 3000 ∧ ((¬ 3000 < s1.size ∧ s = s1) ∨ (3000 < s1.size ∧ s1.extract 0 3000 = s)) := by
        by_cases hb : 3000 < s1.size
        · exact ⟨_, by rw [ByteArray.size_extract]; omega, .inr ⟨hb, rfl⟩⟩
        · exact ⟨s1, by omega, .inl ⟨hb, rfl⟩⟩
      obtain ⟨t, c, cz, hc, hcz, htz, hputs⟩ : ∃ (t : ByteArray) (c : Nat) (cz : Int), (c : Int) = cz ∧ ((cz = 0 ∧ x + s.size ≤ 4096 ∧ ((x + s.size < r.size ∧ r.extract 0 x ++ s ++ r.extract (x + s.size) r.size = t) ∨ (¬ x + s.size < r.size ∧ r.extract 0 x ++ s = t))) ∨ (cz = 9 ∧ ¬ x + s.size ≤ 4096 ∧ r = t)) ∧ t.size ≤ 4096 ∧ putP (heT r.data.toList 0 0 1) 2 x s.data.toList = (heT t.data.toList 0 0 1, c) := by
        have hl : r.data.toList.length = r.size := by simp
        have hls : s.data.toList.length = s.size := by simp
        by_cases hf : x + s.size ≤ 4096
        · have h9 : ¬ (4096 : Int) - x < s.data.toList.length := by rw [hls]; omega
          by_cases hsh : x + s.size < r.size
          · refine ⟨_, 0, 0, rfl, .inl ⟨rfl, hf, .inl ⟨hsh, rfl⟩⟩, ?_, ?_⟩
            · rw [ByteArray.size_append, ByteArray.size_append, ByteArray.size_extract, ByteArray.size_extract]; omega
            · rw [he_putAt (by rw [hl]; exact hx), if_neg h9, want_short r s x hx]
          · refine ⟨_, 0, 0, rfl, .inl ⟨rfl, hf, .inr ⟨hsh, rfl⟩⟩, ?_, ?_⟩
            · rw [ByteArray.size_append, ByteArray.size_extract]; omega
            · rw [he_putAt (by rw [hl]; exact hx), if_neg h9, want_long r s x hx (by omega)]
        · have h9 : (4096 : Int) - x < s.data.toList.length := by rw [hls]; omega
          refine ⟨r, 9, 9, rfl, .inr ⟨rfl, hf, rfl⟩, hr, ?_⟩
          rw [he_putAt (by rw [hl]; exact hx), if_pos h9]
      have hst : Sound (heT t.data.toList 0 0 1) := by
        have := sound_put hso 2 x s.data.toList
        rw [hputs] at this
        exact this
      have HPUT := Lib.hid (ps_put_at hp hso.sd 2 x s (by omega) (by omega) hputs hc)
      have HST := Lib.hid hst
      have HSTAT := Lib.hid fun wx (h : PS w wx A (heT t.data.toList 0 0 1)) => ps_stat_at h hst.sd 2 (show statP (heT t.data.toList 0 0 1) 2 = (⟨2, 0, 420, 1, 1, 0, t.size, 0⟩, true) by rw [he_stat]; simp)
      have hdt := fun wx (h : PS w wx A (heT t.data.toList 0 0 1)) => ps_data h 2
      rw [he_data, str_back] at hdt
      have HD := Lib.hid hdt
      have HX := Lib.hid fun wx (h : PS w wx A (heT t.data.toList 0 0 1)) => ps_put_at h hst.sd 2 ((t.size : Int) + 1) ⟨#[120]⟩ (by omega) (by decide) (show putP (heT t.data.toList 0 0 1) 2 ((t.size : Int) + 1) (ByteArray.mk #[120]).data.toList = (heT t.data.toList 0 0 1, 1) by have := he_putX (row := t.data.toList) (s := (ByteArray.mk #[120]).data.toList) (i := 0) (n := 0) (h := 1); simpa using this) (cz := 1) rfl
      clear hputs hst hdt hp hso
      rcases hcase with ⟨h0, h1⟩ | ⟨h0, h1, h2⟩
      · rcases hbig with ⟨hb, rfl⟩ | ⟨hb, hbe⟩
        · skip
          rcases hcz with ⟨rfl, hf, ⟨hsh, HE⟩ | ⟨hsh, HE⟩⟩ | ⟨rfl, hf, rfl⟩
          · skip
            clear hc
            go_wp2_with (first
              | (go_at_call 19; refine (HX.out _ (p6.alloc _)).mono ?_; rintro e w7 ⟨rfl, p7⟩)
              | (go_at_call 19; refine HPUT.out.mono ?_; rintro e w5 ⟨rfl, p5⟩)
              | (go_at_call 17; refine (HSTAT.out _ p5).mono ?_; rintro e w6 ⟨rfl, p6, b6⟩)
              | (go_at_call 20; refine (HD.out _ (p6.alloc _)).mono ?_; rintro e w' ⟨rfl, rfl⟩))
            go_roundw
            case rel => exact ⟨k + 1, t, by go_num, by omega, rfl, htz, p7, HST.out⟩
            case measure => simp [intOf]; omega
          · skip
            have htn : ¬ t.size < r.size := by rw [← HE, ByteArray.size_append, ByteArray.size_extract]; omega
            clear hc
            go_wp2_with (first
              | (go_at_call 19; refine (HX.out _ (p6.alloc _)).mono ?_; rintro e w7 ⟨rfl, p7⟩)
              | (go_at_call 19; refine HPUT.out.mono ?_; rintro e w5 ⟨rfl, p5⟩)
              | (go_at_call 17; refine (HSTAT.out _ p5).mono ?_; rintro e w6 ⟨rfl, p6, b6⟩)
              | (go_at_call 20; refine (HD.out _ (p6.alloc _)).mono ?_; rintro e w' ⟨rfl, rfl⟩))
            go_roundw
            case rel => exact ⟨k + 1, t, by go_num, by omega, rfl, htz, p7, HST.out⟩
            case measure => simp [intOf]; omega
          · skip
            have hsh : ¬ x + s.size < r.size := by omega
            clear hc
            go_wp2_with (first
              | (go_at_call 19; refine (HX.out _ (p6.alloc _)).mono ?_; rintro e w7 ⟨rfl, p7⟩)
              | (go_at_call 19; refine HPUT.out.mono ?_; rintro e w5 ⟨rfl, p5⟩)
              | (go_at_call 17; refine (HSTAT.out _ p5).mono ?_; rintro e w6 ⟨rfl, p6, b6⟩)
              | (go_at_call 20; refine (HD.out _ (p6.alloc _)).mono ?_; rintro e w' ⟨rfl, rfl⟩))
            go_roundw
            case rel => exact ⟨k + 1, r, by go_num, by omega, rfl, htz, p7, HST.out⟩
            case measure => simp [intOf]; omega
        · skip
          rcases hcz with ⟨rfl, hf, ⟨hsh, HE⟩ | ⟨hsh, HE⟩⟩ | ⟨rfl, hf, rfl⟩
          · skip
            clear hc
            go_wp2_with (first
              | (go_at_call 19; refine (HX.out _ (p6.alloc _)).mono ?_; rintro e w7 ⟨rfl, p7⟩)
              | (go_at_call 19; refine HPUT.out.mono ?_; rintro e w5 ⟨rfl, p5⟩)
              | (go_at_call 17; refine (HSTAT.out _ p5).mono ?_; rintro e w6 ⟨rfl, p6, b6⟩)
              | (go_at_call 20; refine (HD.out _ (p6.alloc _)).mono ?_; rintro e w' ⟨rfl, rfl⟩))
            go_roundw
            case rel => exact ⟨k + 1, t, by go_num, by omega, rfl, htz, p7, HST.out⟩
            case measure => simp [intOf]; omega
          · skip
            have htn : ¬ t.size < r.size := by rw [← HE, ByteArray.size_append, ByteArray.size_extract]; omega
            clear hc
            go_wp2_with (first
              | (go_at_call 19; refine (HX.out _ (p6.alloc _)).mono ?_; rintro e w7 ⟨rfl, p7⟩)
              | (go_at_call 19; refine HPUT.out.mono ?_; rintro e w5 ⟨rfl, p5⟩)
              | (go_at_call 17; refine (HSTAT.out _ p5).mono ?_; rintro e w6 ⟨rfl, p6, b6⟩)
              | (go_at_call 20; refine (HD.out _ (p6.alloc _)).mono ?_; rintro e w' ⟨rfl, rfl⟩))
            go_roundw
            case rel => exact ⟨k + 1, t, by go_num, by omega, rfl, htz, p7, HST.out⟩
            case measure => simp [intOf]; omega
          · skip
            have hsh : ¬ x + s.size < r.size := by omega
            clear hc
            go_wp2_with (first
              | (go_at_call 19; refine (HX.out _ (p6.alloc _)).mono ?_; rintro e w7 ⟨rfl, p7⟩)
              | (go_at_call 19; refine HPUT.out.mono ?_; rintro e w5 ⟨rfl, p5⟩)
              | (go_at_call 17; refine (HSTAT.out _ p5).mono ?_; rintro e w6 ⟨rfl, p6, b6⟩)
              | (go_at_call 20; refine (HD.out _ (p6.alloc _)).mono ?_; rintro e w' ⟨rfl, rfl⟩))
            go_roundw
            case rel => exact ⟨k + 1, r, by go_num, by omega, rfl, htz, p7, HST.out⟩
            case measure => simp [intOf]; omega
      · rcases hbig with ⟨hb, rfl⟩ | ⟨hb, hbe⟩
        · skip
          rcases hcz with ⟨rfl, hf, ⟨hsh, HE⟩ | ⟨hsh, HE⟩⟩ | ⟨rfl, hf, rfl⟩
          · skip
            clear hc
            go_wp2_with (first
              | (go_at_call 19; refine (HX.out _ (p6.alloc _)).mono ?_; rintro e w7 ⟨rfl, p7⟩)
              | (go_at_call 19; refine HPUT.out.mono ?_; rintro e w5 ⟨rfl, p5⟩)
              | (go_at_call 17; refine (HSTAT.out _ p5).mono ?_; rintro e w6 ⟨rfl, p6, b6⟩)
              | (go_at_call 20; refine (HD.out _ (p6.alloc _)).mono ?_; rintro e w' ⟨rfl, rfl⟩))
            go_roundw
            case rel => exact ⟨k + 1, t, by go_num, by omega, rfl, htz, p7, HST.out⟩
            case measure => simp [intOf]; omega
          · skip
            have htn : ¬ t.size < r.size := by rw [← HE, ByteArray.size_append, ByteArray.size_extract]; omega
            clear hc
            go_wp2_with (first
              | (go_at_call 19; refine (HX.out _ (p6.alloc _)).mono ?_; rintro e w7 ⟨rfl, p7⟩)
              | (go_at_call 19; refine HPUT.out.mono ?_; rintro e w5 ⟨rfl, p5⟩)
              | (go_at_call 17; refine (HSTAT.out _ p5).mono ?_; rintro e w6 ⟨rfl, p6, b6⟩)
              | (go_at_call 20; refine (HD.out _ (p6.alloc _)).mono ?_; rintro e w' ⟨rfl, rfl⟩))
            go_roundw
            case rel => exact ⟨k + 1, t, by go_num, by omega, rfl, htz, p7, HST.out⟩
            case measure => simp [intOf]; omega
          · skip
            have hsh : ¬ x + s.size < r.size := by omega
            clear hc
            go_wp2_with (first
              | (go_at_call 19; refine (HX.out _ (p6.alloc _)).mono ?_; rintro e w7 ⟨rfl, p7⟩)
              | (go_at_call 19; refine HPUT.out.mono ?_; rintro e w5 ⟨rfl, p5⟩)
              | (go_at_call 17; refine (HSTAT.out _ p5).mono ?_; rintro e w6 ⟨rfl, p6, b6⟩)
              | (go_at_call 20; refine (HD.out _ (p6.alloc _)).mono ?_; rintro e w' ⟨rfl, rfl⟩))
            go_roundw
            case rel => exact ⟨k + 1, r, by go_num, by omega, rfl, htz, p7, HST.out⟩
            case measure => simp [intOf]; omega
        · skip
          rcases hcz with ⟨rfl, hf, ⟨hsh, HE⟩ | ⟨hsh, HE⟩⟩ | ⟨rfl, hf, rfl⟩
          · skip
            clear hc
            go_wp2_with (first
              | (go_at_call 19; refine (HX.out _ (p6.alloc _)).mono ?_; rintro e w7 ⟨rfl, p7⟩)
              | (go_at_call 19; refine HPUT.out.mono ?_; rintro e w5 ⟨rfl, p5⟩)
              | (go_at_call 17; refine (HSTAT.out _ p5).mono ?_; rintro e w6 ⟨rfl, p6, b6⟩)
              | (go_at_call 20; refine (HD.out _ (p6.alloc _)).mono ?_; rintro e w' ⟨rfl, rfl⟩))
            go_roundw
            case rel => exact ⟨k + 1, t, by go_num, by omega, rfl, htz, p7, HST.out⟩
            case measure => simp [intOf]; omega
          · skip
            have htn : ¬ t.size < r.size := by rw [← HE, ByteArray.size_append, ByteArray.size_extract]; omega
            clear hc
            go_wp2_with (first
              | (go_at_call 19; refine (HX.out _ (p6.alloc _)).mono ?_; rintro e w7 ⟨rfl, p7⟩)
              | (go_at_call 19; refine HPUT.out.mono ?_; rintro e w5 ⟨rfl, p5⟩)
              | (go_at_call 17; refine (HSTAT.out _ p5).mono ?_; rintro e w6 ⟨rfl, p6, b6⟩)
              | (go_at_call 20; refine (HD.out _ (p6.alloc _)).mono ?_; rintro e w' ⟨rfl, rfl⟩))
            go_roundw
            case rel => exact ⟨k + 1, t, by go_num, by omega, rfl, htz, p7, HST.out⟩
            case measure => simp [intOf]; omega
          · skip
            have hsh : ¬ x + s.size < r.size := by omega
            clear hc
            go_wp2_with (first
              | (go_at_call 19; refine (HX.out _ (p6.alloc _)).mono ?_; rintro e w7 ⟨rfl, p7⟩)
              | (go_at_call 19; refine HPUT.out.mono ?_; rintro e w5 ⟨rfl, p5⟩)
              | (go_at_call 17; refine (HSTAT.out _ p5).mono ?_; rintro e w6 ⟨rfl, p6, b6⟩)
              | (go_at_call 20; refine (HD.out _ (p6.alloc _)).mono ?_; rintro e w' ⟨rfl, rfl⟩))
            go_roundw
            case rel => exact ⟨k + 1, r, by go_num, by omega, rfl, htz, p7, HST.out⟩
            case measure => simp [intOf]; omega
    · have HSO := Lib.hid hso
      have hdt := fun wx (h : PS w wx A (heT [] 0 0 1)) => ps_data h 2
      rw [he_data] at hdt
      have HD := Lib.hid hdt
      have HCUT := Lib.hid (ps_cut_at hp hso.sd 2 (he_cut (row := r.data.toList) (i := 0) (n := 0) (h := 1)) (cz := 0) rfl)
      clear hso hp hdt
      have hcond : ¬ k < n0 ∨ (k < n0 ∧ ¬ k < n1) ∨ (k < n0 ∧ k < n1 ∧ ¬ k < 30) := by omega
      rcases hcond with h | ⟨h, h'⟩ | ⟨h, h', h''⟩
      · have i0 : ¬ (k : Int) < n0 := by omega
        clear hlt h
        go_wp2_with (first
          | (go_at_call 20; refine (HD.out _ p5).mono ?_; rintro e w' ⟨rfl, rfl⟩)
          | (go_at_call 21; refine HCUT.out.mono ?_; rintro e w5 ⟨rfl, p5⟩))
        go_ret
        exact ⟨rfl, p5.below⟩
      · have i0 : (k : Int) < n0 := by omega
        have i1 : ¬ (k : Int) < n1 := by omega
        clear hlt h h'
        go_wp2_with (first
          | (go_at_call 20; refine (HD.out _ p5).mono ?_; rintro e w' ⟨rfl, rfl⟩)
          | (go_at_call 21; refine HCUT.out.mono ?_; rintro e w5 ⟨rfl, p5⟩))
        go_ret
        exact ⟨rfl, p5.below⟩
      · have i0 : (k : Int) < n0 := by omega
        have i1 : (k : Int) < n1 := by omega
        have i2 : ¬ (k : Int) < 30 := by omega
        clear hlt h h' h''
        go_wp2_with (first
          | (go_at_call 20; refine (HD.out _ p5).mono ?_; rintro e w' ⟨rfl, rfl⟩)
          | (go_at_call 21; refine HCUT.out.mono ?_; rintro e w5 ⟨rfl, p5⟩))
        go_ret
        exact ⟨rfl, p5.below⟩
end Go.Proofs.Ytakceopobgommaa
