/- Parse. -/
import Derived.Test.YtoahgblgchmclaaQC
namespace Go.Proofs.Ytoahgblgchmclaa
open Go.RowKit
set_option linter.unusedVariables false
set_option linter.unusedSimpArgs false
theorem row_some {W : World} {B : Nat} {v : Value} {ts : List Tk} (h : Row W B v ts) (hn : 0 < ts.length) : ∃ g cap, v = .slice (some ⟨g, 0, none⟩) ts.length cap := by
  obtain ⟨ao, cap, e, _, _, h5⟩ := ownz_form (show W.ownsRow B 40 3 v ts.length (tkC ts) from h)
  obtain ⟨g, rfl⟩ := h5 hn
  exact ⟨g, cap, e⟩
/-- at most 401 tokens. -/
theorem allL_len' (l : Bs) : ∀ (n i : Nat) (out ts : List Tk), out.length ≤ 400 → allL l n i out = .ok ts → ts.length ≤ 401 := by
  intro n
  induction n with
  | zero =>
    intro i out ts ho h
    rw [allL] at h
    injection h with h
    rw [← h, List.length_append]; simp; omega
  | succ n ih =>
    intro i out ts ho h
    rw [allL] at h
    split at h
    · injection h with h
      rw [← h, List.length_append]; simp; omega
    split at h
    · exact ih _ _ _ ho h
    split at h
    · exact ih _ _ _ ho h
    split at h
    · exact ih _ _ _ ho h
    split at h
    · cases h
    rename_i h4
    split at h
    · exact ih _ _ _ (by rw [List.length_append]; simp; omega) h
    · split at h
      · exact ih _ _ _ (by rw [List.length_append]; simp; omega) h
      · cases h
      · cases h
theorem allA_len' {l : Bs} {ts : List Tk} (h : allA l = .ok ts) : ts.length ≤ 401 := by
  unfold allA at h
  split at h
  · cases h
  · exact allL_len' l _ _ _ _ (by simp) h
theorem allA_ne {l : Bs} {k : Nat} {e : Int} (h : allA l = .err k e) : ¬ e = 0 := by
  have key : ∀ (n i : Nat) (out : List Tk), allL l n i out = .err k e → ¬ e = 0 := by
    intro n
    induction n with
    | zero => intro i out h; rw [allL] at h; cases h
    | succ n ih =>
      intro i out h
      rw [allL] at h
      split at h
      · cases h
      split at h
      · exact ih _ _ h
      split at h
      · exact ih _ _ h
      split at h
      · exact ih _ _ h
      split at h
      · injection h with _ h; rw [← h]; decide
      split at h
      · exact ih _ _ h
      · split at h
        · exact ih _ _ h
        · injection h with _ h; rw [← h]; decide
        · injection h with _ h; rw [← h]; decide
  unfold allA at h
  split at h
  · injection h with _ h; rw [← h]; decide
  · exact key _ _ _ h
theorem pAll_err {s : ByteArray} (hs : s.size ≤ maxLen) (W : World) {k : Nat} {e : Int} (h : allA s.data.toList = .err k e) : Calls Try.prog 14 #[.string s] W fun r w' => ∃ v, r = .returned (.tuple #[v, .int .i64 k, .int .i64 e]) ∧ Fr (fun _ => False) W w' := by
  have := pAll_any s hs W
  rw [h] at this
  refine this.mono ?_
  rintro r w' ⟨v, rfl, _, hf⟩
  exact ⟨v, rfl, hf⟩
theorem pAll_tok {s : ByteArray} (hs : s.size ≤ maxLen) (W : World) {ts : List Tk} (h : allA s.data.toList = .ok ts) (hn : 0 < ts.length) : Calls Try.prog 14 #[.string s] W fun r w' => ∃ g cap, r = .returned (.tuple #[.slice (some ⟨g, 0, none⟩) ts.length cap, .int .i64 0, .int .i64 0]) ∧ Row w' 0 (.slice (some ⟨g, 0, none⟩) ts.length cap) ts ∧ Fr (fun _ => False) W w' := by
  have := pAll_any s hs W
  rw [h] at this
  refine this.mono ?_
  rintro r w' ⟨v, rfl, hrow, hf⟩
  have hrow' : Row w' W.heap.size v ts := hrow
  obtain ⟨g, cap, rfl⟩ := row_some hrow' hn
  exact ⟨g, cap, rfl, ownz_weak hrow' (Nat.zero_le _), hf⟩
set_option maxHeartbeats 4000000 in
theorem parse_any (s : ByteArray) (hs : s.size ≤ maxLen) (W : World) : Calls Try.prog 9 #[.string s] W (parsePost W (parseA s.data.toList)) := by
  obtain ⟨A, hA⟩ : ∃ A, allA s.data.toList = A := ⟨_, rfl⟩
  obtain ⟨R, hR⟩ : ∃ R, parseA s.data.toList = R := ⟨_, rfl⟩
  rw [hR]
  unfold parseA at hR
  rw [hA] at hR
  cases A with
  | err k e =>
    have HA := Lib.hid (pAll_err hs W hA)
    have he := allA_ne hA
    have he2 : (e != 0) = true := by rw [bne_iff_ne]; exact he
    have HV := Lib.hid (show (([] : List Nd), k, e) = R from hR)
    clear hR hA he hs
    go_enter Try.func9, Try.ntmps9
    go_wp2_with (first | (go_at_call 14; (with_reducible refine HA.out.mono ?_); rintro e w1 ⟨v, rfl, hF⟩; have HF := Lib.hid hF; clear hF))
    go_ret3
    rw [← HV.out]
    exact ⟨_, fun _ => False, rfl, Nds.nil _ _, (fun k e => e.elim), (fun k e => by cases e), HF.out⟩
  | ok ts =>
    have hg := allA_good hA
    have hl := allA_len' hA
    have hne := hg.1.ne
    have HA := Lib.hid (pAll_tok hs W hA hne)
    have HG := Lib.hid hg
    have hR2 : parseT ts = R := hR
    unfold parseT at hR2
    dsimp only at hR2
    obtain ⟨t, ht⟩ : ∃ t, script ⟨ts, [], 0, 0, 0⟩ = t := ⟨_, rfl⟩
    have HS := Lib.hid (fun (w : World) (p g cap : Nat) (h : PM w s.data.toList.length (fun _ => False) p g cap ts (.slice none 0 0) ⟨ts, [], 0, 0, 0⟩) => script_any h (by show 0 ≤ 25; decide) (by unfold pot; show ((0 : Nat) : Int) + 20 * (ts.length : Int) ≤ 50000; omega))
    rw [ht] at HS hR2
    have HLN := Lib.hid (show ts.length ≤ 4500 by omega)
    have HT := Lib.hid hR2
    clear hR hA hg hs ht hR2 hl hne
    by_cases he : t.err = 0
    · by_cases h3 : 300 < t.ns.length
      · have h3' : decide ((t.ns.length : Int) > 300) = true := decide_eq_true (by omega)
        have HV := Lib.hid (show (([] : List Nd), 0, 12) = R by have := HT.out; rw [if_neg (by simp [he]), if_pos h3] at this; exact this)
        have HE := Lib.hid he
        clear HT he h3
        go_enter Try.func9, Try.ntmps9
        go_upto_region 5 with (first | (go_at_call 14; (with_reducible refine HA.out.mono ?_); rintro e w1 ⟨g, cap, rfl, hrow, hF⟩; have HROW := Lib.hid hrow; have HF := Lib.hid hF; clear hF hrow HA))
        have HP1 := Lib.hid (PM.start HROW.out HG.out.1 HG.out.2 HLN.out)
        have HF1 := Lib.hid (HF.out.alloc (.cells #[.slice (some ⟨g, 0, none⟩) ts.length cap, .slice none 0 0, .int .i64 0, .int .i64 0, .int .i64 0] 48))
        have HZ1 := Lib.hid HF.out.size
        generalize w1.alloc (.cells #[.slice (some ⟨g, 0, none⟩) ts.length cap, .slice none 0 0, .int .i64 0, .int .i64 0, .int .i64 0] 48) = w2 at *
        generalize w1.heap.size = p at *
        go_upto_region 6 with (first | (go_at_call 15; (with_reducible refine (HS.out _ _ _ _ HP1.out).mono ?_); rintro e w5 ⟨rfl, nv5, K5, hP, hG⟩; have HP5 := Lib.hid hP; have HF5 := Lib.hid (show Fr (fun _ => False) W w5 from ⟨hG.fr.os.trans HF1.out.os, hG.fr.tape.trans HF1.out.tape, hG.fr.output.trans HF1.out.output, Nat.le_trans HF1.out.size hG.fr.size, fun i hi _ => (hG.fr.block i (Nat.lt_of_lt_of_le hi HF1.out.size) (fun e => by rcases e with e | e; (have := HZ1.out; omega); cases e)).trans (HF1.out.block i hi id)⟩); have HK5 := Lib.hid (show (∀ k, K5 k → W.heap.size ≤ k) ∧ (∀ k, nv5.ownBlock = some k → W.heap.size ≤ k) from ⟨fun k e => by rcases hG.kk k e with e | e; (exact e.elim); (exact Nat.le_trans HF1.out.size e), fun k e => by rcases hG.blk k e with e | e; (cases e); (exact Nat.le_trans HF1.out.size e)⟩); clear hP hG))
        obtain ⟨c0, c1, c2, c3, c4, -⟩ := HP5.out.cells
        obtain ⟨ncs, hnd, -⟩ := HP5.out.x.nds
        obtain ⟨nao, ncap, hnv, -, -, -⟩ := ownz_form hnd
        subst hnv
        clear c0 c2 hnd
        rw [HE.out] at c4
        go_wp2
        go_ret3
        rw [← HV.out]
        exact ⟨_, fun _ => False, rfl, Nds.nil _ _, (fun k e => e.elim), (fun k e => by cases e), HF5.out⟩
      · have h3' : decide ((t.ns.length : Int) > 300) = false := decide_eq_false (by omega)
        have HV := Lib.hid (show (t.ns, 0, 0) = R by have := HT.out; rw [if_neg (by simp [he]), if_neg h3] at this; exact this)
        have HE := Lib.hid he
        clear HT he h3
        go_enter Try.func9, Try.ntmps9
        go_upto_region 5 with (first | (go_at_call 14; (with_reducible refine HA.out.mono ?_); rintro e w1 ⟨g, cap, rfl, hrow, hF⟩; have HROW := Lib.hid hrow; have HF := Lib.hid hF; clear hF hrow HA))
        have HP1 := Lib.hid (PM.start HROW.out HG.out.1 HG.out.2 HLN.out)
        have HF1 := Lib.hid (HF.out.alloc (.cells #[.slice (some ⟨g, 0, none⟩) ts.length cap, .slice none 0 0, .int .i64 0, .int .i64 0, .int .i64 0] 48))
        have HZ1 := Lib.hid HF.out.size
        generalize w1.alloc (.cells #[.slice (some ⟨g, 0, none⟩) ts.length cap, .slice none 0 0, .int .i64 0, .int .i64 0, .int .i64 0] 48) = w2 at *
        generalize w1.heap.size = p at *
        go_upto_region 6 with (first | (go_at_call 15; (with_reducible refine (HS.out _ _ _ _ HP1.out).mono ?_); rintro e w5 ⟨rfl, nv5, K5, hP, hG⟩; have HP5 := Lib.hid hP; have HF5 := Lib.hid (show Fr (fun _ => False) W w5 from ⟨hG.fr.os.trans HF1.out.os, hG.fr.tape.trans HF1.out.tape, hG.fr.output.trans HF1.out.output, Nat.le_trans HF1.out.size hG.fr.size, fun i hi _ => (hG.fr.block i (Nat.lt_of_lt_of_le hi HF1.out.size) (fun e => by rcases e with e | e; (have := HZ1.out; omega); cases e)).trans (HF1.out.block i hi id)⟩); have HK5 := Lib.hid (show (∀ k, K5 k → W.heap.size ≤ k) ∧ (∀ k, nv5.ownBlock = some k → W.heap.size ≤ k) from ⟨fun k e => by rcases hG.kk k e with e | e; (exact e.elim); (exact Nat.le_trans HF1.out.size e), fun k e => by rcases hG.blk k e with e | e; (cases e); (exact Nat.le_trans HF1.out.size e)⟩); clear hP hG))
        obtain ⟨c0, c1, c2, c3, c4, -⟩ := HP5.out.cells
        obtain ⟨ncs, hnd, -⟩ := HP5.out.x.nds
        obtain ⟨nao, ncap, hnv, -, -, -⟩ := ownz_form hnd
        subst hnv
        clear c0 c2 hnd
        rw [HE.out] at c4
        go_wp2
        go_ret3
        rw [← HV.out]
        exact ⟨_, K5, rfl, HP5.out.x.nds, HK5.out.1, HK5.out.2, HF5.out⟩
    · have he2 : (t.err != 0) = true := by rw [bne_iff_ne]; exact he
      have HV := Lib.hid (show (([] : List Nd), t.at_, t.err) = R by have := HT.out; rw [if_pos he] at this; exact this)
      clear HT he
      go_enter Try.func9, Try.ntmps9
      go_upto_region 5 with (first | (go_at_call 14; (with_reducible refine HA.out.mono ?_); rintro e w1 ⟨g, cap, rfl, hrow, hF⟩; have HROW := Lib.hid hrow; have HF := Lib.hid hF; clear hF hrow HA))
      have HP1 := Lib.hid (PM.start HROW.out HG.out.1 HG.out.2 HLN.out)
      have HF1 := Lib.hid (HF.out.alloc (.cells #[.slice (some ⟨g, 0, none⟩) ts.length cap, .slice none 0 0, .int .i64 0, .int .i64 0, .int .i64 0] 48))
      have HZ1 := Lib.hid HF.out.size
      generalize w1.alloc (.cells #[.slice (some ⟨g, 0, none⟩) ts.length cap, .slice none 0 0, .int .i64 0, .int .i64 0, .int .i64 0] 48) = w2 at *
      generalize w1.heap.size = p at *
      go_upto_region 6 with (first | (go_at_call 15; (with_reducible refine (HS.out _ _ _ _ HP1.out).mono ?_); rintro e w5 ⟨rfl, nv5, K5, hP, hG⟩; have HP5 := Lib.hid hP; have HF5 := Lib.hid (show Fr (fun _ => False) W w5 from ⟨hG.fr.os.trans HF1.out.os, hG.fr.tape.trans HF1.out.tape, hG.fr.output.trans HF1.out.output, Nat.le_trans HF1.out.size hG.fr.size, fun i hi _ => (hG.fr.block i (Nat.lt_of_lt_of_le hi HF1.out.size) (fun e => by rcases e with e | e; (have := HZ1.out; omega); cases e)).trans (HF1.out.block i hi id)⟩); have HK5 := Lib.hid (show (∀ k, K5 k → W.heap.size ≤ k) ∧ (∀ k, nv5.ownBlock = some k → W.heap.size ≤ k) from ⟨fun k e => by rcases hG.kk k e with e | e; (exact e.elim); (exact Nat.le_trans HF1.out.size e), fun k e => by rcases hG.blk k e with e | e; (cases e); (exact Nat.le_trans HF1.out.size e)⟩); clear hP hG))
      obtain ⟨c0, c1, c2, c3, c4, -⟩ := HP5.out.cells
      obtain ⟨ncs, hnd, -⟩ := HP5.out.x.nds
      obtain ⟨nao, ncap, hnv, -, -, -⟩ := ownz_form hnd
      subst hnv
      clear c0 c2 hnd
      go_wp2
      go_quiet (fail)
      go_wp2
      go_ret3
      rw [← HV.out]
      exact ⟨_, fun _ => False, rfl, Nds.nil _ _, (fun k e => e.elim), (fun k e => by cases e), HF5.out.drewN _⟩
end Go.Proofs.Ytoahgblgchmclaa
