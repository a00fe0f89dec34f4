/- Contract of the document's place. -/
import Derived.Test.YtjopmchbphjliaaGreatDoorRD
namespace Go.Proofs.YtjopmchbphjliaaGreatDoor
open Go.RowKit Go.Shelf

set_option maxHeartbeats 1600000 in
theorem rplace_any (s : ByteArray) (hs : s.size ≤ 1048576) (w : World) :
    Calls Tryz.prog 46 #[.string s] w fun e w' => e = .returned (.bool (placeB s.data.toList)) ∧ Below w.heap.size w w' := by
  obtain ⟨k, hk⟩ : ∃ k, splE s.data.toList = k := ⟨_, rfl⟩
  obtain ⟨d, hd⟩ : ∃ d, splDir s.data.toList = d := ⟨_, rfl⟩
  obtain ⟨a, ha⟩ : ∃ a, splAbs s.data.toList = a := ⟨_, rfl⟩
  have hsp := rsplit_place s hs a d k ha hd hk w
  have Hp := Lib.hid (place_two hk ha)
  clear hk hd ha
  go_enter Tryz.func46, Tryz.ntmps46
  go_wp2_with fail
  refine hsp.mono ?_
  rintro e w1 ⟨p, n, cap, rfl, hb⟩
  clear hsp
  have hb2 : Below w.heap.size w (w1.alloc (.cells #[.bool a, .slice p n cap, .bool d] 77)) := hb.alloc hb.size _
  have c0 : (w1.alloc (.cells #[.bool a, .slice p n cap, .bool d] 77)).cell? ⟨w1.heap.size, 0, none⟩ = some (.bool a) := (Blk.new w1 77 _).cell 0
  clear hb
  go_wp2_with fail
  generalize w1.alloc (.cells #[.bool a, .slice p n cap, .bool d] 77) = w2 at hb2 c0 ⊢
  go_wp2
  go_loop [5] (fun i => allRel ne58 s i) (fun i => s.size - (intOf i).toNat)
  case atStart => exact ⟨0, Nat.zero_le _, rfl, rfl⟩
  case round =>
    obtain ⟨j, hj, rfl, hn⟩ := hrel
    have Hn := Lib.hid hn; clear hn
    by_cases hlt : j < s.size
    · cases hb : ne58 s[j]
      · have Hs := Lib.hid ((all_stop s j hlt hb).symm.trans Hn.out)
        have h58 : (((s[j].toNat : Int) == 58) : Bool) = true := u8_true _ 58 (by unfold ne58 at hb; simpa using hb)
        clear hb
        go_wp2
        go_ret
        exact ⟨ret_bool (by rw [Hp.out, ← Hs.out]; rfl), hb2⟩
      · have Hs := Lib.hid ((all_step s j hlt hb).symm.trans Hn.out)
        have h58 : (((s[j].toNat : Int) == 58) : Bool) = false := u8_false _ 58 (by unfold ne58 at hb; simpa using hb)
        clear hb
        go_wp2
        go_round
        case rel => exact ⟨j + 1, by omega, by go_num, Hs.out⟩
        case measure => simp [intOf]; omega
    · have Hs := Lib.hid ((all_end (p := ne58) s j (by omega)).symm.trans Hn.out)
      by_cases h0 : k = 0
      · subst h0
        go_wp2
        go_ret
        exact ⟨ret_bool (by rw [Hp.out, ← Hs.out]; simp), hb2⟩
      · have hk0 : (((k : Int) == 0) : Bool) = false := by rw [beq_eq_false_iff_ne]; omega
        go_wp2
        go_ret
        exact ⟨ret_bool (by rw [Hp.out, ← Hs.out, decide_eq_false h0]; rfl), hb2⟩
set_option maxHeartbeats 1600000 in
theorem rName_any (s : ByteArray) (hs : s.size ≤ maxLen) (w : World) :
    Calls Tryz.prog 44 #[.string s] w fun e w' => e = .returned (.bool (nameU s.data.toList)) ∧ w = w' := by
  unfold maxLen at hs
  by_cases h1 : 1 ≤ s.size
  · by_cases h8 : s.size ≤ 8
    · have hd := head_at s (by omega)
      have Hr := Lib.hid (show nameU s.data.toList = (letB s[0] && s.data.toList.all wordB) by unfold nameU; rw [hd, size_len, decide_eq_true h1, decide_eq_true h8]; rfl)
      clear hd
      go_enter Tryz.func44, Tryz.ntmps44
      go_wp2
      go_loop [3] (fun i => rnRel s i) (fun i => s.size - (intOf i).toNat)
      case atStart => exact ⟨0, Nat.zero_le _, rfl, rfl, fun h => absurd h (Nat.lt_irrefl _)⟩
      case round =>
        obtain ⟨k, hk, rfl, hn, h0⟩ := hrel
        have Hn := Lib.hid hn; clear hn
        have H0 := Lib.hid h0; clear h0
        by_cases hlt : k < s.size
        · by_cases hl : 97 ≤ s[k].toNat ∧ s[k].toNat ≤ 122
          · have hL : letB s[k] = true := by unfold letB; rw [decide_eq_true hl.1, decide_eq_true hl.2]; rfl
            have Hs := Lib.hid ((all_step s k hlt (show wordB s[k] = true by unfold wordB; rw [hL]; rfl)).symm.trans Hn.out)
            have H02 := Lib.hid (rn_first s k hlt hL H0.out)
            clear hL
            obtain ⟨hl1, hl2⟩ := hl
            have b122 : decide ((s[k].toNat : Int) ≤ 122) = true := decide_eq_true (by omega)
            go_wp2
            go_round
            case rel => exact ⟨k + 1, by omega, by go_num, Hs.out, fun _ => H02.out⟩
            case measure => simp [intOf]; omega
          · have hL : letB s[k] = false := by unfold letB; exact not_between hl
            by_cases hk0 : k = 0
            · subst hk0
              have Hf := Lib.hid (Hr.out.trans (show (letB s[0] && s.data.toList.all wordB) = false by rw [hL]; rfl))
              clear hL
              by_cases h97 : 97 ≤ s[0].toNat
              · have b122 : decide ((s[0].toNat : Int) ≤ 122) = false := decide_eq_false (fun h => hl ⟨h97, by omega⟩)
                clear hl
                go_wp2
                go_ret
                exact ⟨ret_bool Hf.out.symm, rfl⟩
              · clear hl
                go_wp2
                go_ret
                exact ⟨ret_bool Hf.out.symm, rfl⟩
            · have H03 := Lib.hid (H0.out (by omega))
              have bk : (((k : Int) == 0) : Bool) = false := by rw [beq_eq_false_iff_ne]; omega
              by_cases hd : 48 ≤ s[k].toNat ∧ s[k].toNat ≤ 57
              · have hW : wordB s[k] = true := by unfold wordB decB; rw [decide_eq_true hd.1, decide_eq_true hd.2, Bool.or_comm]; rfl
                have Hs := Lib.hid ((all_step s k hlt hW).symm.trans Hn.out)
                have b97 : ¬ 97 ≤ (s[k].toNat : Int) := by omega
                have b48 : decide ((s[k].toNat : Int) < 48) = false := decide_eq_false (by omega)
                have b57 : decide (57 < (s[k].toNat : Int)) = false := decide_eq_false (by omega)
                clear hL hW hl hd
                go_wp2
                go_round
                case rel => exact ⟨k + 1, by omega, by go_num, Hs.out, fun _ => H03.out⟩
                case measure => simp [intOf]; omega
              · have hW : wordB s[k] = false := by unfold wordB; rw [hL]; unfold decB; rw [not_between hd]; rfl
                have Hs := Lib.hid ((all_stop s k hlt hW).symm.trans Hn.out)
                have Hf := Lib.hid (Hr.out.trans (show (letB s[0] && s.data.toList.all wordB) = false by rw [← Hs.out]; simp))
                clear hL hW
                by_cases h97 : 97 ≤ s[k].toNat
                · have b122 : decide ((s[k].toNat : Int) ≤ 122) = false := decide_eq_false (fun h => hl ⟨h97, by omega⟩)
                  have b48 : decide ((s[k].toNat : Int) < 48) = false := decide_eq_false (by omega)
                  have b57 : decide (57 < (s[k].toNat : Int)) = true := decide_eq_true (by omega)
                  clear hl hd
                  go_wp2
                  go_ret
                  exact ⟨ret_bool Hf.out.symm, rfl⟩
                · by_cases h48 : 48 ≤ s[k].toNat
                  · have b48 : decide ((s[k].toNat : Int) < 48) = false := decide_eq_false (by omega)
                    have b57 : decide (57 < (s[k].toNat : Int)) = true := decide_eq_true (by have := fun h => hd ⟨h48, h⟩; omega)
                    clear hl hd
                    go_wp2
                    go_ret
                    exact ⟨ret_bool Hf.out.symm, rfl⟩
                  · have b48 : decide ((s[k].toNat : Int) < 48) = true := decide_eq_true (by omega)
                    clear hl hd
                    go_wp2
                    go_ret
                    exact ⟨ret_bool Hf.out.symm, rfl⟩
        · have Hs := Lib.hid ((all_end (p := wordB) s k (by omega)).symm.trans Hn.out)
          have H03 := Lib.hid (H0.out (by omega))
          go_wp2
          go_ret
          exact ⟨ret_bool (by obtain ⟨_, h⟩ := H03.out; rw [Hr.out, ← Hs.out, h]; rfl), rfl⟩
    · have Hr := Lib.hid (show nameU s.data.toList = false by unfold nameU; rw [size_len, decide_eq_false h8]; simp)
      go_enter Tryz.func44, Tryz.ntmps44
      go_wp2
      go_ret
      exact ⟨ret_bool Hr.out.symm, rfl⟩
  · have Hr := Lib.hid (show nameU s.data.toList = false by unfold nameU; rw [size_len, decide_eq_false h1]; simp)
    go_enter Tryz.func44, Tryz.ntmps44
    go_wp2
    go_ret
    exact ⟨ret_bool Hr.out.symm, rfl⟩
end Go.Proofs.YtjopmchbphjliaaGreatDoor
