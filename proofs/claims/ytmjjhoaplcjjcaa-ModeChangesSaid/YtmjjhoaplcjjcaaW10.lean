/- Contract of Change of the document's answer. -/
import Derived.Test.YtmjjhoaplcjjcaaW9
namespace Go.Proofs.Ytmjjhoaplcjjcaa
open Go.RowKit

theorem head_more (l : List UInt8) (j : Nat) (hj : j ≤ (headS l).length) (h : j < l.length) (hc : ¬ l[j] = 44) : j + 1 ≤ (headS l).length := by
  induction l generalizing j with
  | nil => simp at h
  | cons c r ih =>
    rw [headS_cons] at hj ⊢
    by_cases h0 : c = 44
    · rw [if_pos h0] at hj
      simp at hj
      subst hj
      exact absurd h0 hc
    · rw [if_neg h0] at hj ⊢
      cases j with
      | zero => simp
      | succ j =>
        have := ih j (by simpa using hj) (by simpa using h) (by simpa using hc)
        simpa using this
theorem head_here (l : List UInt8) (j : Nat) (hj : j ≤ (headS l).length) (h : j < l.length) (hc : l[j] = 44) : (headS l).length = j := by
  induction l generalizing j with
  | nil => simp at h
  | cons c r ih =>
    rw [headS_cons] at hj ⊢
    by_cases h0 : c = 44
    · rw [if_pos h0] at hj ⊢
      simp at hj
      simp [hj]
    · rw [if_neg h0] at hj ⊢
      cases j with
      | zero => exact absurd hc h0
      | succ j =>
        have := ih j (by simpa using hj) (by simpa using h) (by simpa using hc)
        simpa using this
theorem extract_mid (s : ByteArray) (a b : Nat) : (s.extract a b).data.toList = (s.data.toList.drop a).take (b - a) := by
  rw [ByteArray.data_extract, Array.toList_extract]
theorem u8_ne (c d : UInt8) (h : ¬ c = d) : (((c.toNat : Int) != (d.toNat : Int)) : Bool) = true := by rw [bne, u8_false _ _ h]; rfl
theorem u8_nn (c d : UInt8) (h : c = d) : (((c.toNat : Int) != (d.toNat : Int)) : Bool) = false := by rw [bne, u8_true _ _ h]; rfl

def refRel (s : ByteArray) (dir : Bool) (res : Option Int) (B : Nat) (w : World) (mv fv iv : Value) (wr : World) : Prop :=
  ∃ (fr i : Nat) (x : Int), iv = .int .i64 i ∧ fv = .int .i64 fr ∧ mv = .int .i64 x ∧ Below B w wr ∧
    ((fr ≤ i ∧ i ≤ s.size ∧ i - fr ≤ (headS (s.data.toList.drop fr)).length ∧ ∃ f, s.size - fr < f ∧ chgS dir f (s.data.toList.drop fr) x = res) ∨ (i = s.size + 1 ∧ res = some x))
set_option maxHeartbeats 2000000 in
theorem refChange_any (s : ByteArray) (m : Int) (dir : Bool) (hs : s.size ≤ 140737488351232) (w : World) :
    Calls Try.prog 21 #[.string s, .int .i64 m, .bool dir] w fun e w' => e = .returned (optV (if refRightB m = true then changeS s.data.toList m dir else none)) ∧ Below w.heap.size w w' := by
  have hsm : s.size ≤ maxLen := by unfold maxLen; omega
  obtain ⟨B, hB⟩ : ∃ B, w.heap.size = B := ⟨_, rfl⟩
  have HB := Lib.hid hB
  cases hr : refRightB m
  · have Hr := Lib.hid (show (if false = true then changeS s.data.toList m dir else none) = none from if_neg Bool.false_ne_true)
    clear hB
    go_enter Try.func21, Try.ntmps21
    go_wp2_with (go_at_call 13; refine (refRight_any _ _).mono ?_; rintro e w' ⟨rfl, rfl⟩)
    go_ret2
    exact ⟨rfl, Below.refl _ _⟩
  have hr0 : rightB m = true := by unfold refRightB at hr; simp at hr; exact hr.2
  rw [if_pos rfl]
  cases ho : octS s.data.toList with
  | some v =>
    have Hr := Lib.hid (show changeS s.data.toList m dir = some (v : Int) by unfold changeS; rw [hr0, ho]; rfl)
    have Ho := Lib.hid (show octV (octS s.data.toList) = .tuple #[.int .i64 (v : Int), .bool true] by rw [ho]; rfl)
    clear ho hB hr0
    go_enter Try.func21, Try.ntmps21
    go_wp2_with (first | (go_at_call 13; refine (refRight_any _ _).mono ?_; rintro e w' ⟨rfl, rfl⟩) | (go_at_call 17; refine (refOctal_any s hsm _).mono ?_; rintro e w' ⟨rfl, rfl⟩; rw [Ho.out]))
    go_ret2
    exact ⟨ret_val (by rw [Hr.out]; rfl), Below.refl _ _⟩
  | none =>
    have Hr := Lib.hid (show changeS s.data.toList m dir = chgS dir (s.data.toList.length + 1) s.data.toList m by unfold changeS; rw [hr0, ho]; rfl)
    have Ho := Lib.hid (show octV (octS s.data.toList) = .tuple #[.int .i64 0, .bool false] by rw [ho]; rfl)
    clear ho hB hr0
    go_enter Try.func21, Try.ntmps21
    go_wp2_with (first | (go_at_call 13; refine (refRight_any _ _).mono ?_; rintro e w' ⟨rfl, rfl⟩) | (go_at_call 17; refine (refOctal_any s hsm _).mono ?_; rintro e w' ⟨rfl, rfl⟩; rw [Ho.out]))
    clear hr Ho
    go_loopw [1, 11, 12, 13, 14] (fun mv fv iv _ _ wr => refRel s dir (changeS s.data.toList m dir) B w mv fv iv wr) (fun _ _ iv _ _ _ => s.size + 1 - (intOf iv).toNat)
    case atStart => exact ⟨0, 0, m, rfl, rfl, rfl, by rw [← HB.out]; exact Below.refl _ _, Or.inl ⟨Nat.le_refl _, Nat.zero_le _, Nat.zero_le _, s.data.toList.length + 1, by simp, Hr.out.symm⟩⟩
    case round =>
      clear Hr
      obtain ⟨fr, i, x, rfl, rfl, rfl, hbel, hc⟩ := hrel
      rcases hc with ⟨hfi, his, hhd, f, hf, hres⟩ | ⟨rfl, hres⟩
      · have Hres := Lib.hid hres; clear hres
        obtain ⟨f, rfl⟩ : ∃ g, f = g + 1 := ⟨f - 1, by omega⟩
        have hlen : (s.data.toList.drop fr).length = s.size - fr := by simp
        have Hlen := Lib.hid hlen
        clear hlen
        by_cases hlt : i < s.size
        · have hij : (s.data.toList.drop fr)[i - fr]'(by have := Hlen.out; omega) = s[i] := by
            rw [List.getElem_drop]
            have : fr + (i - fr) = i := by omega
            simp only [this]; rfl
          by_cases hcm : s[i] = 44
          · have t44 : (((s[i].toNat : Int) != 44) : Bool) = false := u8_nn _ _ hcm
            have hk := head_here _ (i - fr) hhd (by have := Hlen.out; omega) (by rw [hij, hcm])
            have hcl0 : (s.extract fr i).data.toList = headS (s.data.toList.drop fr) := by rw [extract_mid, ← hk, headS_take]
            have has : (s.extract fr i).size ≤ maxLen := by simp; omega
            have hsz : B ≤ wr.heap.size := by have := hbel.size; have := HB.out; omega
            cases hcl : clauseS (s.extract fr i).data.toList x dir with
            | some y =>
              have Hn := Lib.hid (chg_next dir f (s.data.toList.drop fr) x y (by have := Hlen.out; omega) (by rw [← hcl0, hcl]))
              have Hcl := Lib.hid hcl
              have Hk := Lib.hid hk
              clear hcl hcl0 hcm hk hij
              go_wp2_with (go_at_call 27; refine (clause_any (s.extract fr i) x dir has _).mono ?_; rintro e w' ⟨rfl, hb⟩; rw [Hcl.out]; unfold optV)
              go_roundw
              case rel =>
                refine ⟨i + 1, i + 1, y, by go_num, by go_num, rfl, hbel.trans (hb.mono hsz), Or.inl ⟨Nat.le_refl _, by omega, by omega, f, by omega, ?_⟩⟩
                rw [← Hres.out, Hn.out, Hk.out, List.drop_drop]
                congr 2
                omega
              case measure => simp [intOf]; omega
            | none =>
              have Hn := Lib.hid (show changeS s.data.toList m dir = none by rw [← Hres.out]; exact chg_bad dir f _ x (by rw [← hcl0, hcl]))
              have Hcl := Lib.hid hcl
              clear hcl hcl0 hcm hk hij
              go_wp2_with (go_at_call 27; refine (clause_any (s.extract fr i) x dir has _).mono ?_; rintro e w' ⟨rfl, hb⟩; rw [Hcl.out]; unfold optV)
              go_ret2
              exact ⟨ret_val (by rw [Hn.out]; rfl), by rw [HB.out]; exact hbel.trans (hb.mono hsz)⟩
          · have t44 : (((s[i].toNat : Int) != 44) : Bool) = true := u8_ne _ _ hcm
            have hk := head_more _ (i - fr) hhd (by have := Hlen.out; omega) (by rw [hij]; exact hcm)
            clear hcm hij
            go_wp2
            go_roundw
            case rel => exact ⟨fr, i + 1, x, by go_num, rfl, rfl, hbel, Or.inl ⟨by omega, by omega, by omega, f + 1, by omega, Hres.out⟩⟩
            case measure => simp [intOf]; omega
        · obtain rfl : i = s.size := by omega
          have hle := headS_len (s.data.toList.drop fr)
          have hwh : (headS (s.data.toList.drop fr)).length = (s.data.toList.drop fr).length := by have := Hlen.out; omega
          have hwl : headS (s.data.toList.drop fr) = s.data.toList.drop fr := by
            have := headS_take (s.data.toList.drop fr); rw [hwh, List.take_length] at this; exact this.symm
          have hcl0 : (s.extract fr s.size).data.toList = headS (s.data.toList.drop fr) := by rw [extract_drop, hwl]
          clear hle
          have has : (s.extract fr s.size).size ≤ maxLen := by simp; omega
          have hsz : B ≤ wr.heap.size := by have := hbel.size; have := HB.out; omega
          cases hcl : clauseS (s.extract fr s.size).data.toList x dir with
          | some y =>
            have Hn := Lib.hid (chg_last dir f _ x y hwh (by rw [← hwl, ← hcl0, hcl]))
            have Hcl := Lib.hid hcl
            clear hcl hcl0 hwh hwl
            go_wp2_with (go_at_call 27; refine (clause_any (s.extract fr s.size) x dir has _).mono ?_; rintro e w' ⟨rfl, hb⟩; rw [Hcl.out]; unfold optV)
            go_roundw
            case rel => exact ⟨s.size + 1, s.size + 1, y, by go_num, by go_num, rfl, hbel.trans (hb.mono hsz), Or.inr ⟨by omega, by rw [← Hres.out, Hn.out]⟩⟩
            case measure => simp [intOf]
          | none =>
            have Hn := Lib.hid (show changeS s.data.toList m dir = none by rw [← Hres.out]; exact chg_bad dir f _ x (by rw [← hcl0, hcl]))
            have Hcl := Lib.hid hcl
            clear hcl hcl0 hwh hwl
            go_wp2_with (go_at_call 27; refine (clause_any (s.extract fr s.size) x dir has _).mono ?_; rintro e w' ⟨rfl, hb⟩; rw [Hcl.out]; unfold optV)
            go_ret2
            exact ⟨ret_val (by rw [Hn.out]; rfl), by rw [HB.out]; exact hbel.trans (hb.mono hsz)⟩
      · have Hres := Lib.hid hres; clear hres
        go_wp2
        go_ret2
        exact ⟨ret_val (by rw [Hres.out]; rfl), by rw [HB.out]; exact hbel⟩
end Go.Proofs.Ytmjjhoaplcjjcaa
