/- Contracts: entry, is, Held, Seek, Hold. -/
import Derived.Test.YtjjkeemaebmcfaaDA
namespace Go.Proofs.Ytjjkeemaebmcfaa
open Go.RowKit
set_option linter.unusedVariables false
set_option linter.unusedSimpArgs false
variable {W W' : World} {P : Nat} {e : Tab}

theorem pentry_any (n : Int) (w : World) (h : TB 63 w P e) :
    Calls Try.prog 33 #[.pointer (some ⟨P, 0, none⟩), .int .i64 n] w fun r w' => r = .returned (.pointer (if isE e n then some ⟨P, n.toNat * 6, none⟩ else none)) ∧ w = w' := by
  by_cases h0 : 0 ≤ n
  · by_cases h1 : n < 60
    · obtain ⟨k, rfl⟩ : ∃ k : Nat, n = k := ⟨n.toNat, by omega⟩
      have hk : k < 60 := by omega
      have c5 := h.c5 hk
      have e1 : isE e (k : Int) = decide (0 < (e k).n) := by simp [isE]; omega
      by_cases h2 : (e k).n = 0
      · have e2 : (((e k).n : Int) == 0) = true := by simp [h2]
        have e3 : isE e (k : Int) = false := by rw [e1]; simp [h2]
        rw [e3]
        clear h e1 e3
        generalize ((e k).n : Int) = m at *
        go_enter Try.func33, Try.ntmps33
        go_wp2
        go_ret
        exact ⟨by first | rfl | simp, rfl⟩
      · have e2 : (((e k).n : Int) == 0) = false := by simp [h2]
        have e3 : isE e (k : Int) = true := by rw [e1]; simp; omega
        rw [e3]
        clear h e1 e3
        generalize ((e k).n : Int) = m at *
        go_enter Try.func33, Try.ntmps33
        go_wp2
        go_ret
        exact ⟨by first | rfl | simp, rfl⟩
    · have e3 : isE e n = false := by simp [isE]; omega
      rw [e3]
      go_enter Try.func33, Try.ntmps33
      go_wp2
      go_ret
      exact ⟨by first | rfl | simp, rfl⟩
  · have e3 : isE e n = false := by simp [isE]; omega
    rw [e3]
    go_enter Try.func33, Try.ntmps33
    go_wp2
    go_ret
    exact ⟨by first | rfl | simp, rfl⟩
theorem ris_any (n : Int) (w : World) (h : TB 33 w P e) :
    Calls Try.prog 34 #[.pointer (some ⟨P, 0, none⟩), .int .i64 n] w fun r w' => r = .returned (.bool (isE e n)) ∧ w = w' := by
  by_cases h0 : 0 ≤ n
  · by_cases h1 : n < 60
    · obtain ⟨k, rfl⟩ : ∃ k : Nat, n = k := ⟨n.toNat, by omega⟩
      have hk : k < 60 := by omega
      have c5 := h.c5 hk
      have e1 : isE e (k : Int) = decide (0 < ((e k).n : Int)) := by simp [isE]; omega
      rw [e1]
      clear h e1
      generalize ((e k).n : Int) = m at *
      go_enter Try.func34, Try.ntmps34
      go_wp2
      go_ret
      exact ⟨ret_bool (by first | rfl | simp), rfl⟩
    · have e3 : isE e n = false := by simp [isE]; omega
      rw [e3]
      go_enter Try.func34, Try.ntmps34
      go_wp2
      go_ret
      exact ⟨by first | rfl | simp, rfl⟩
  · have e3 : isE e n = false := by simp [isE]; omega
    rw [e3]
    go_enter Try.func34, Try.ntmps34
    go_wp2
    go_ret
    exact ⟨by first | rfl | simp, rfl⟩
/-- how often it is held. -/
def heldA (e : Tab) (n : Int) : Nat := if isE e n then (e n.toNat).n else 0
theorem pheld_any (n : Int) (w : World) (h : TB 63 w P e) :
    Calls Try.prog 20 #[.pointer (some ⟨P, 0, none⟩), .int .i64 n] w fun r w' => r = .returned (.int .i64 (heldA e n : Nat)) ∧ w = w' := by
  have HE := pentry_any n w h
  unfold heldA
  cases hi : isE e n
  · rw [hi] at HE
    simp only [Bool.false_eq_true, if_false] at HE ⊢
    go_enter Try.func20, Try.ntmps20
    go_wp2_with (refine HE.mono ?_; rintro r w' ⟨rfl, rfl⟩)
    go_ret
    exact ⟨rfl, rfl⟩
  · rw [hi] at HE
    obtain ⟨k, rfl, hk, hn⟩ := isE_true hi
    simp only [if_true, Int.toNat_natCast] at HE ⊢
    have c5 := h.c5 hk
    clear h hi hn
    go_enter Try.func20, Try.ntmps20
    go_wp2_with (refine HE.mono ?_; rintro r w' ⟨rfl, rfl⟩)
    go_ret
    exact ⟨rfl, rfl⟩
theorem rheld_any (n : Int) (w : World) (h : TB 33 w P e) :
    Calls Try.prog 21 #[.pointer (some ⟨P, 0, none⟩), .int .i64 n] w fun r w' => r = .returned (.int .i64 (heldA e n : Nat)) ∧ w = w' := by
  have HE := ris_any n w h
  unfold heldA
  cases hi : isE e n
  · rw [hi] at HE
    simp only [Bool.false_eq_true, if_false] at HE ⊢
    go_enter Try.func21, Try.ntmps21
    go_wp2_with (refine HE.mono ?_; rintro r w' ⟨rfl, rfl⟩)
    go_ret
    exact ⟨rfl, rfl⟩
  · rw [hi] at HE
    obtain ⟨k, rfl, hk, hn⟩ := isE_true hi
    simp only [if_true, Int.toNat_natCast] at HE ⊢
    have c5 := h.c5 hk
    clear h hi hn
    go_enter Try.func21, Try.ntmps21
    go_wp2_with (refine HE.mono ?_; rintro r w' ⟨rfl, rfl⟩)
    go_ret
    exact ⟨rfl, rfl⟩
/-- Seek: what it tells, and the table behind it. -/
def seekB (e : Tab) (n a : Int) : Bool := isE e n && decide (0 ≤ a)
def seekT (e : Tab) (n a : Int) : Tab := if seekB e n a then upd e n.toNat { e n.toNat with at_ := a } else e
theorem pseek_any (n a : Int) (w : World) (h : TB 63 w P e) :
    Calls Try.prog 12 #[.pointer (some ⟨P, 0, none⟩), .int .i64 n, .int .i64 a] w fun r w' => r = .returned (.bool (seekB e n a)) ∧ TB 63 w' P (seekT e n a) ∧ Fr (· = P) w w' := by
  have HE := pentry_any n w h
  unfold seekT seekB
  cases hi : isE e n
  · rw [hi] at HE
    simp only [Bool.false_eq_true, if_false, Bool.false_and] at HE ⊢
    have H := Lib.hid h
    clear h
    go_enter Try.func12, Try.ntmps12
    go_wp2_with (refine HE.mono ?_; rintro r w' ⟨rfl, rfl⟩)
    go_ret
    exact ⟨rfl, H.out, Fr.refl _ _⟩
  · rw [hi] at HE
    obtain ⟨k, rfl, hk, hn⟩ := isE_true hi
    simp only [if_true, Int.toNat_natCast, Bool.true_and] at HE ⊢
    have c4 := h.c4 hk
    have f4 := h.frozen (k * 6 + 4)
    have H := Lib.hid h
    clear h hi hn
    by_cases ha : 0 ≤ a
    · have e1 : (a < 0) = False := by simp; omega
      rw [decide_eq_true ha]
      go_enter Try.func12, Try.ntmps12
      go_wp2_with (refine HE.mono ?_; rintro r w' ⟨rfl, rfl⟩)
      go_ret
      exact ⟨rfl, H.out.setAt k a, Fr.one _ _ _ _⟩
    · have e1 : (a < 0) = True := by simp; omega
      rw [decide_eq_false ha]
      go_enter Try.func12, Try.ntmps12
      go_wp2_with (refine HE.mono ?_; rintro r w' ⟨rfl, rfl⟩)
      go_ret
      exact ⟨rfl, H.out, Fr.refl _ _⟩
theorem rseek_any (n a : Int) (w : World) (h : TB 33 w P e) :
    Calls Try.prog 13 #[.pointer (some ⟨P, 0, none⟩), .int .i64 n, .int .i64 a] w fun r w' => r = .returned (.bool (seekB e n a)) ∧ TB 33 w' P (seekT e n a) ∧ Fr (· = P) w w' := by
  have HE := ris_any n w h
  unfold seekT seekB
  cases hi : isE e n
  · rw [hi] at HE
    simp only [Bool.false_eq_true, if_false, Bool.false_and] at HE ⊢
    have H := Lib.hid h
    clear h
    go_enter Try.func13, Try.ntmps13
    go_wp2_with (refine HE.mono ?_; rintro r w' ⟨rfl, rfl⟩)
    go_ret
    exact ⟨rfl, H.out, Fr.refl _ _⟩
  · rw [hi] at HE
    obtain ⟨k, rfl, hk, hn⟩ := isE_true hi
    simp only [if_true, Int.toNat_natCast, Bool.true_and] at HE ⊢
    have c4 := h.c4 hk
    have f4 := h.frozen (k * 6 + 4)
    have H := Lib.hid h
    clear h hi hn
    by_cases ha : 0 ≤ a
    · have e1 : (a < 0) = False := by simp; omega
      rw [decide_eq_true ha]
      go_enter Try.func13, Try.ntmps13
      go_wp2_with (refine HE.mono ?_; rintro r w' ⟨rfl, rfl⟩)
      go_ret
      exact ⟨rfl, H.out.setAt k a, Fr.one _ _ _ _⟩
    · have e1 : (a < 0) = True := by simp; omega
      rw [decide_eq_false ha]
      go_enter Try.func13, Try.ntmps13
      go_wp2_with (refine HE.mono ?_; rintro r w' ⟨rfl, rfl⟩)
      go_ret
      exact ⟨rfl, H.out, Fr.refl _ _⟩
/-- the table behind Hold. -/
def holdT (e : Tab) (n : Int) : Tab := if isE e n then upd e n.toNat { e n.toNat with n := (e n.toNat).n + 1 } else e
theorem phold_any (n : Int) (w : World) (h : TB 63 w P e) (hb : (e n.toNat).n < 1000000) :
    Calls Try.prog 14 #[.pointer (some ⟨P, 0, none⟩), .int .i64 n] w fun r w' => r = .returned (.bool (isE e n)) ∧ TB 63 w' P (holdT e n) ∧ Fr (· = P) w w' := by
  have HE := pentry_any n w h
  unfold holdT
  cases hi : isE e n
  · rw [hi] at HE
    simp only [Bool.false_eq_true, if_false] at HE ⊢
    have H := Lib.hid h
    clear h
    go_enter Try.func14, Try.ntmps14
    go_wp2_with (refine HE.mono ?_; rintro r w' ⟨rfl, rfl⟩)
    go_ret
    exact ⟨rfl, H.out, Fr.refl _ _⟩
  · rw [hi] at HE
    obtain ⟨k, rfl, hk, hn⟩ := isE_true hi
    simp only [if_true, Int.toNat_natCast] at HE hb ⊢
    have c5 := h.c5 hk
    have f5 := h.frozen (k * 6 + 5)
    have H := Lib.hid h
    clear h hi hn
    go_enter Try.func14, Try.ntmps14
    go_wp2_with (refine HE.mono ?_; rintro r w' ⟨rfl, rfl⟩)
    go_ret
    exact ⟨rfl, H.out.setN k _, Fr.one _ _ _ _⟩
theorem rhold_any (n : Int) (w : World) (h : TB 33 w P e) (hb : (e n.toNat).n < 1000000) :
    Calls Try.prog 15 #[.pointer (some ⟨P, 0, none⟩), .int .i64 n] w fun r w' => r = .returned (.bool (isE e n)) ∧ TB 33 w' P (holdT e n) ∧ Fr (· = P) w w' := by
  have HE := ris_any n w h
  unfold holdT
  cases hi : isE e n
  · rw [hi] at HE
    simp only [Bool.false_eq_true, if_false] at HE ⊢
    have H := Lib.hid h
    clear h
    go_enter Try.func15, Try.ntmps15
    go_wp2_with (refine HE.mono ?_; rintro r w' ⟨rfl, rfl⟩)
    go_ret
    exact ⟨rfl, H.out, Fr.refl _ _⟩
  · rw [hi] at HE
    obtain ⟨k, rfl, hk, hn⟩ := isE_true hi
    simp only [if_true, Int.toNat_natCast] at HE hb ⊢
    have c5 := h.c5 hk
    have f5 := h.frozen (k * 6 + 5)
    have H := Lib.hid h
    clear h hi hn
    go_enter Try.func15, Try.ntmps15
    go_wp2_with (refine HE.mono ?_; rintro r w' ⟨rfl, rfl⟩)
    go_region
    go_wp2
    go_ret
    exact ⟨rfl, (H.out.setN k ((e k).n + 1)).fr (S := fun _ => False) ((Fr.refl _ _).drew) id, (Fr.one _ _ _ _).drew⟩
end Go.Proofs.Ytjjkeemaebmcfaa
