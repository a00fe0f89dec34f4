/- Contracts: skip, Part. -/
import Derived.Test.YtoahgblgchmclaaLH
namespace Go.Proofs.Ytoahgblgchmclaa
open Go.RowKit
set_option linter.unusedVariables false
set_option linter.unusedSimpArgs false
/-- what is left gives the answer. -/
def To (l : Bs) (i : Nat) (out : List Tk) (A : Ans) : Prop := ∃ n, l.length - i ≤ n ∧ allL l n i out = A
abbrev isNl (l : Bs) (i : Nat) : Prop := l.getD i 0 = 92 ∧ (l.drop (i + 1)).head? = some 10
/-- a token begins here. -/
def Beg (l : Bs) (i : Nat) : Prop := ¬ (l.getD i 0 = 32 ∨ l.getD i 0 = 9) ∧ ¬ isNl l i ∧ ¬ l.getD i 0 = 35
theorem To.blank {l : Bs} {i : Nat} {out : List Tk} {A : Ans} (h : To l i out A) (hi : i < l.length) (hb : l.getD i 0 = 32 ∨ l.getD i 0 = 9) : To l (i + 1) out A := by
  obtain ⟨n, hn, e⟩ := h
  obtain ⟨m, rfl⟩ : ∃ m, n = m + 1 := ⟨n - 1, by omega⟩
  rw [allL, if_neg (by omega), if_pos hb] at e
  exact ⟨m, by omega, e⟩
theorem To.nl {l : Bs} {i : Nat} {out : List Tk} {A : Ans} (h : To l i out A) (hi : i < l.length) (hb : isNl l i) : To l (i + 2) out A := by
  obtain ⟨n, hn, e⟩ := h
  obtain ⟨m, rfl⟩ : ∃ m, n = m + 1 := ⟨n - 1, by omega⟩
  rw [allL, if_neg (by omega), if_neg (by rw [hb.1]; decide), if_pos hb] at e
  exact ⟨m, by omega, e⟩
theorem To.cmt {l : Bs} {i : Nat} {out : List Tk} {A : Ans} (h : To l i out A) (hi : i < l.length) (hb : l.getD i 0 = 35) (hc : i < cmt l i) : To l (cmt l i) out A := by
  obtain ⟨n, hn, e⟩ := h
  obtain ⟨m, rfl⟩ : ∃ m, n = m + 1 := ⟨n - 1, by omega⟩
  rw [allL, if_neg (by omega), if_neg (by rw [hb]; decide), if_neg (fun h => by rw [hb] at h; exact absurd h.1 (by decide)), if_pos hb] at e
  exact ⟨m, by omega, e⟩
theorem To.ended {l : Bs} {i : Nat} {out : List Tk} {A : Ans} (h : To l i out A) (hi : l.length ≤ i) : A = .ok (out ++ [⟨4, [], l.length⟩]) := by
  obtain ⟨n, hn, e⟩ := h
  cases n with
  | zero => rw [allL] at e; exact e.symm
  | succ n => rw [allL, if_pos hi] at e; exact e.symm
def tkR (l : Bs) (i : Nat) : R := if 0 < sg (l.drop i) then .ok (i + sg (l.drop i)) else wordL l l.length i
def tkV (l : Bs) (i j : Nat) : Tk := ⟨if 0 < sg (l.drop i) then 2 else wkind l i j, mid l i j, i⟩
/-- what a token makes of what is left. -/
def stepA (l : Bs) (i : Nat) (out : List Tk) (A : Ans) : R → Prop
  | .ok j => To l j (out ++ [tkV l i j]) A
  | .more => A = .err l.length 23
  | .deep k => A = .err k 17
theorem sg_len : ∀ l : Bs, sg l ≤ l.length := by
  intro l
  match l with
  | [] => exact Nat.zero_le _
  | [c] => rw [sg_one]; split <;> simp
  | c :: d :: r => rw [sg_two]; split <;> (try split) <;> simp
theorem getD_at' {l : Bs} {j : Nat} (h : j < l.length) : ∃ r, l.drop j = l.getD j 0 :: r := by
  refine ⟨l.drop (j + 1), ?_⟩
  rw [List.drop_eq_getElem_cons h, List.getD_eq_getElem?_getD, List.getElem?_eq_getElem h]; rfl
theorem sg_zero {c : UInt8} {r : Bs} (h : ¬ 0 < sg (c :: r)) : signB c = false := by
  cases r with
  | nil =>
    rw [sg_one] at h
    cases hs : signB c
    · rfl
    · rw [hs] at h; simp at h
  | cons d r =>
    rw [sg_two] at h
    cases hs : signB c
    · rfl
    · rw [hs] at h
      split at h <;> simp at h
theorem word_lt {l : Bs} {i j : Nat} (hi : i < l.length) (hs : stopB (l.getD i 0) = false) {n : Nat} (hn : l.length - i ≤ n) (h : wordL l n i = .ok j) : i < j ∧ j ≤ l.length := by
  obtain ⟨m, rfl⟩ : ∃ m, n = m + 1 := ⟨n - 1, by omega⟩
  rw [wordL, if_neg (by omega), if_neg (by rw [hs]; decide)] at h
  split at h
  · have := wordL_le _ _ _ _ h; omega
  · split at h
    · rename_i m hm
      have h1 := partL_le _ _ _ _ _ _ hm
      have h2 := wordL_le _ _ _ _ h
      omega
    · rename_i hno
      exact absurd h (hno _)
theorem tkR_lt {l : Bs} {i j : Nat} (hi : i < l.length) (hb : Beg l i) (h : tkR l i = .ok j) : i < j ∧ j ≤ l.length := by
  unfold tkR at h
  split at h
  · rename_i h0
    injection h with h
    have := sg_len (l.drop i)
    rw [List.length_drop] at this
    omega
  · rename_i h0
    obtain ⟨r, hr⟩ := getD_at' hi
    rw [hr] at h0
    have h1 := sg_zero h0
    have h2 : blankB (l.getD i 0) = false := by
      have := hb.1
      unfold blankB
      simp only [Bool.or_eq_false_iff, decide_eq_false_iff_not]
      exact ⟨fun e => this (.inl e), fun e => this (.inr e)⟩
    exact word_lt hi (by rw [stop_parts, h1, h2]; rfl) (by omega) h
theorem To.step {l : Bs} {i : Nat} {out : List Tk} {A : Ans} (h : To l i out A) (hi : i < l.length) (hb : Beg l i) (ho : ¬ out.length = 400) : stepA l i out A (tkR l i) := by
  obtain ⟨n, hn, e⟩ := h
  obtain ⟨m, rfl⟩ : ∃ m, n = m + 1 := ⟨n - 1, by omega⟩
  rw [allL, if_neg (by omega), if_neg hb.1, if_neg hb.2.1, if_neg hb.2.2, if_neg ho] at e
  have hlt := fun j => tkR_lt (j := j) hi hb
  unfold tkR at hlt ⊢
  split at e
  · rename_i h0
    rw [if_pos h0] at hlt ⊢
    have := hlt _ rfl
    exact ⟨m, by omega, by rw [tkV, if_pos h0]; exact e⟩
  · rename_i h0
    rw [if_neg h0] at hlt ⊢
    cases hw : wordL l l.length i with
    | ok j =>
      rw [hw] at e
      have := hlt _ hw
      exact ⟨m, by omega, by rw [tkV, if_neg h0]; exact e⟩
    | more => rw [hw] at e; exact e.symm
    | deep k => rw [hw] at e; exact e.symm
theorem To.many {l : Bs} {i : Nat} {out : List Tk} {A : Ans} (h : To l i out A) (hi : i < l.length) (hb : Beg l i) (ho : out.length = 400) : A = .err i 12 := by
  obtain ⟨n, hn, e⟩ := h
  obtain ⟨m, rfl⟩ : ∃ m, n = m + 1 := ⟨n - 1, by omega⟩
  rw [allL, if_neg (by omega), if_neg hb.1, if_neg hb.2.1, if_neg hb.2.2, if_pos ho] at e
  exact e.symm
def skRel (W : World) (p : Nat) (s : ByteArray) (k : Nat) (wr : World) : Prop :=
  ∃ j, RM wr p s j ∧ Fr (· = p) W wr ∧ k ≤ j ∧ j ≤ s.size ∧ ∀ out A, To s.data.toList k out A → To s.data.toList j out A
def skPost (W : World) (p : Nat) (s : ByteArray) (k : Nat) (e : Ending) (w' : World) : Prop :=
  e = .returned (.tuple #[]) ∧ ∃ j, RM w' p s j ∧ Fr (· = p) W w' ∧ k ≤ j ∧ j ≤ s.size ∧ (∀ out A, To s.data.toList k out A → To s.data.toList j out A) ∧ (j < s.size → Beg s.data.toList j)
set_option maxHeartbeats 8000000 in
theorem skip_any (W : World) (p : Nat) (s : ByteArray) (k : Nat) (hk : k ≤ s.size) (hs : s.size ≤ maxLen) (h : RM W p s k) :
    Calls Try.prog 19 #[.pointer (some ⟨p, 0, none⟩)] W (skPost W p s k) := by
  have hs' := hs
  unfold maxLen at hs'
  have H := Lib.hid h
  clear h
  go_enter Try.func19, Try.ntmps19
  go_wp2
  go_loopw [] (fun wr => skRel W p s k wr) (fun wr => s.size - atOf wr p)
  case atStart => exact ⟨k, H.out, Fr.refl _ _, Nat.le_refl _, hk, fun _ _ h => h⟩
  case round =>
    obtain ⟨j, hR, hF, hkj, hj, ht⟩ := hrel
    clear H
    have HF := Lib.hid hF
    have HM := Lib.hid (hR.atOf)
    have HT := Lib.hid ht
    clear ht
    by_cases hjs : j < s.size
    · have HE := Lib.hid (ended_no wr p s j hjs hs hR)
      have hll : j < s.data.toList.length := by rw [size_len]; exact hjs
      have hgd := getD_at hjs
      cases hbl : blankB s[j] with
      | true =>
        have hb : s.data.toList.getD j 0 = 32 ∨ s.data.toList.getD j 0 = 9 := by rw [hgd]; simpa [blankB] using hbl
        have HB := Lib.hid (fun w m => Calls.quiet_of_same (w := w) (n := m) (isBlank_any s[j] (w.drewN m)))
        rw [hbl] at HB
        have HV := Lib.hid (fun out A h => (HT.out out A h).blank hll hb)
        clear hR hF hb hgd hbl
        go_upto_region 1 with (go_at_call 20; (with_reducible refine HE.out.mono ?_); rintro e w1 ⟨rfl, hR, hF⟩; have HR1 := Lib.hid hR; have HG1 := Lib.hid (HF.out.trans hF); clear hR hF)
        obtain ⟨c0, c1, f1⟩ := HR1.out.cells
        go_quiet (first | (go_at_call 30; exact (HB.out _ _)))
        go_wp2
        refine ⟨⟨j + 1, (HR1.out.drewN _).one, (HG1.out.drewN _).setCell (p := ⟨p, 1, none⟩) (.inl rfl) _, by omega, by omega, HV.out⟩, ?_⟩
        rw [(HR1.out.drewN _).one.atOf, HM.out]; omega
      | false =>
        have hb : ¬ (s.data.toList.getD j 0 = 32 ∨ s.data.toList.getD j 0 = 9) := by rw [hgd]; simpa [blankB] using hbl
        have HB := Lib.hid (fun w m => Calls.quiet_of_same (w := w) (n := m) (isBlank_any s[j] (w.drewN m)))
        rw [hbl] at HB
        have N1 := Lib.hid (fun b hb w (h : RM w p s j) => finds_two w p s j 92 10 b hjs hb hs h)
        have N2 := Lib.hid (fun b hb w (h : RM w p s j) => finds_one w p s j 35 b hjs hb hs h)
        clear hR hF hbl
        by_cases hn : s[j] = 92 ∧ (s.data.toList.drop (j + 1)).head? = some 10
        · have N1 := Lib.hid (N1.out true (decide_eq_true hn))
          have hj2 : j + 1 < s.size := by
            refine Nat.lt_of_not_le fun hn' => ?_
            have := hn.2
            rw [List.drop_eq_nil_of_le (by rw [size_len]; omega)] at this
            simp at this
          have HV := Lib.hid (fun out A h => (HT.out out A h).nl hll (show isNl _ _ from ⟨by rw [hgd]; exact hn.1, hn.2⟩))
          clear hb hn hgd
          go_upto_region 1 with (go_at_call 20; (with_reducible refine HE.out.mono ?_); rintro e w1 ⟨rfl, hR, hF⟩; have HR1 := Lib.hid hR; have HG1 := Lib.hid (HF.out.trans hF); clear hR hF)
          obtain ⟨c0, c1, f1⟩ := HR1.out.cells
          go_quiet (first | (go_at_call 30; exact (HB.out _ _)))
          have HR1' := Lib.hid (HR1.out.drewN nq)
          have HG1' := Lib.hid (HG1.out.drewN nq)
          go_wp2_with (go_at_call 31; (with_reducible refine (N1.out _ HR1'.out).mono ?_); rintro e w2 ⟨rfl, hR, hF⟩; obtain ⟨d0, d1, g1⟩ := hR.cells; have HR2 := Lib.hid hR; have HG2 := Lib.hid (HG1'.out.trans hF); clear hR hF)
          refine ⟨⟨j + 2, HR2.out.two, HG2.out.setCell (p := ⟨p, 1, none⟩) (.inl rfl) _, by omega, by omega, HV.out⟩, ?_⟩
          rw [HR2.out.two.atOf, HM.out]; omega
        · have N1 := Lib.hid (N1.out false (decide_eq_false hn))
          by_cases h35 : s[j] = 35
          · have N2 := Lib.hid (N2.out true (decide_eq_true h35))
            have hcm := cmt_at s j hjs
            rw [if_neg (by rw [h35]; decide)] at hcm
            have hle := cmt_le s (j + 1) hjs
            have HV := Lib.hid (fun out A h => (HT.out out A h).cmt hll (by rw [hgd]; exact h35) (by omega))
            have HC := Lib.hid (fun w (h : RM w p s j) => skipC_any w p s j hj hs h)
            rw [hcm] at HV HC
            generalize cmt s.data.toList (j + 1) = m at *
            clear hb hn hgd h35 hcm
            go_upto_region 1 with (go_at_call 20; (with_reducible refine HE.out.mono ?_); rintro e w1 ⟨rfl, hR, hF⟩; have HR1 := Lib.hid hR; have HG1 := Lib.hid (HF.out.trans hF); clear hR hF)
            obtain ⟨c0, c1, f1⟩ := HR1.out.cells
            go_quiet (first | (go_at_call 30; exact (HB.out _ _)))
            have HR1' := Lib.hid (HR1.out.drewN nq)
            have HG1' := Lib.hid (HG1.out.drewN nq)
            go_wp2_with (first | (go_at_call 31; (with_reducible refine (N1.out _ HR1'.out).mono ?_); rintro e w2 ⟨rfl, hR, hF⟩; obtain ⟨d0, d1, g1⟩ := hR.cells; have HR2 := Lib.hid hR; have HG2 := Lib.hid (HG1'.out.trans hF); clear hR hF) | (go_at_call 31; (with_reducible refine (N2.out _ HR2.out).mono ?_); rintro e w3 ⟨rfl, hR, hF⟩; have HR3 := Lib.hid hR; have HG3 := Lib.hid (HG2.out.trans hF); clear hR hF) | (go_at_call 32; (with_reducible refine (HC.out _ HR3.out).mono ?_); rintro e w4 ⟨rfl, hR, hF⟩; have HR4 := Lib.hid hR; have HG4 := Lib.hid (HG3.out.trans hF); clear hR hF))
            refine ⟨⟨m, HR4.out, HG4.out, by omega, by omega, HV.out⟩, ?_⟩
            rw [HR4.out.atOf, HM.out]; omega
          · have N2 := Lib.hid (N2.out false (decide_eq_false h35))
            have HX := Lib.hid (show Beg s.data.toList j from ⟨hb, fun h => hn ⟨by rw [← hgd]; exact h.1, h.2⟩, by rw [hgd]; exact h35⟩)
            clear hb hn hgd h35
            go_upto_region 1 with (go_at_call 20; (with_reducible refine HE.out.mono ?_); rintro e w1 ⟨rfl, hR, hF⟩; have HR1 := Lib.hid hR; have HG1 := Lib.hid (HF.out.trans hF); clear hR hF)
            obtain ⟨c0, c1, f1⟩ := HR1.out.cells
            go_quiet (first | (go_at_call 30; exact (HB.out _ _)))
            have HR1' := Lib.hid (HR1.out.drewN nq)
            have HG1' := Lib.hid (HG1.out.drewN nq)
            go_wp2_with (first | (go_at_call 31; (with_reducible refine (N1.out _ HR1'.out).mono ?_); rintro e w2 ⟨rfl, hR, hF⟩; obtain ⟨d0, d1, g1⟩ := hR.cells; have HR2 := Lib.hid hR; have HG2 := Lib.hid (HG1'.out.trans hF); clear hR hF) | (go_at_call 31; (with_reducible refine (N2.out _ HR2.out).mono ?_); rintro e w3 ⟨rfl, hR, hF⟩; have HR3 := Lib.hid hR; have HG3 := Lib.hid (HG2.out.trans hF); clear hR hF))
            refine bodyPost_end (results_none rfl _ _ _) rfl ?_
            exact ⟨rfl, j, HR3.out, HG3.out, hkj, hj, HT.out, fun _ => HX.out⟩
    · obtain rfl : j = s.size := by omega
      have HE := Lib.hid (ended_yes wr p s hs hR)
      clear hR hF
      go_wp2_with (go_at_call 20; (with_reducible refine HE.out.mono ?_); rintro e w1 ⟨rfl, hR, hF⟩; have HR1 := Lib.hid hR; have HG1 := Lib.hid (HF.out.trans hF); clear hR hF)
      refine bodyPost_end (results_none rfl _ _ _) rfl ?_
      exact ⟨rfl, s.size, HR1.out, HG1.out, hkj, hj, HT.out, fun h => absurd h (by omega)⟩
theorem RM.new (W : World) (s : ByteArray) : RM (W.alloc (.cells #[.string s, .int .i64 0] 54)) W.heap.size s 0 := heap_alloc_new W _
end Go.Proofs.Ytoahgblgchmclaa
