/- The law LexAll: the walk. -/
import Derived.Test.YtmkcenobghaoiaaLV
namespace Go.Proofs.Ytmkcenobghaoiaa
open Go.RowKit
set_option linter.unusedVariables false
set_option linter.unusedSimpArgs false
theorem allL_len2 (l : Bs) : ∀ (n i : Nat) (out ts : List Tk), out.length ≤ 400 → allL l n i out = .ok ts → ts.length ≤ 401 := by
  intro n
  induction n with
  | zero => intro i out ts ho h; rw [allL] at h; injection h with h; rw [← h, List.length_append]; simp; omega
  | succ n ih =>
    intro i out ts ho h
    rw [allL] at h
    split at h
    · injection h with h; rw [← h, List.length_append]; simp; omega
    split at h
    · exact ih _ _ _ ho h
    split at h
    · exact ih _ _ _ ho h
    split at h
    · exact ih _ _ _ ho h
    split at h
    · cases h
    split at h
    · exact ih _ _ _ (by rw [List.length_append]; simp; omega) h
    · split at h
      · exact ih _ _ _ (by rw [List.length_append]; simp; omega) h
      · cases h
      · cases h
theorem allA_len2 {l : Bs} {ts : List Tk} (h : allA l = .ok ts) : ts.length ≤ 401 := by
  unfold allA at h
  split at h
  · cases h
  · exact allL_len2 l _ _ _ _ (by simp) h
theorem allA_len' (l : Bs) : (aT (allA l)).length ≤ 1000 := by
  cases h : allA l with
  | ok ts => exact Nat.le_trans (allA_len2 h) (by omega)
  | err k c => exact Nat.zero_le _
/-- a row whose tokens may change. -/
def Any3 (W : World) (g n : Nat) : Prop := ∃ cur, W.heap[g]? = some (.cells cur 29 (0, 0)) ∧ n * 3 ≤ cur.size
theorem Any3.of {W : World} {B g n cap : Nat} {ts : List Tk} (h : Row W B (.slice (some ⟨g, 0, none⟩) n cap) ts) (hn : ts.length = n) : Any3 W g n := by
  rcases h.2 with ⟨h0, _⟩ | ⟨g', cap', cur, hv, _, hg, h1, _, h2, _⟩
  · cases h0
  · injection hv with hv1 hv2 hv3
    injection hv1 with hv1
    injection hv1 with hv1
    subst hv1 hn
    exact ⟨cur, hg, by rw [h2]; omega⟩
theorem Any3.fr {S : Nat → Prop} {W W' : World} {g n : Nat} (h : Any3 W g n) (f : Fr S W W') (hs : ¬ S g) : Any3 W' g n := by
  obtain ⟨cur, hg, hs'⟩ := h
  exact ⟨cur, (f.block g (heap_lt hg) hs).trans hg, hs'⟩
theorem Any3.set {W : World} {g n : Nat} (h : Any3 W g n) (o : Nat) (v : Value) : Any3 (W.setCell ⟨g, o, none⟩ v) g n := by
  obtain ⟨cur, hg, hs⟩ := h
  exact ⟨_, heap_set hg o v, by simpa using hs⟩
theorem Any3.at {W : World} {g n : Nat} (h : Any3 W g n) (i : Nat) (hi : i < n) : (∃ u, W.cell? ⟨g, i * 3, none⟩ = some u) ∧ (∃ u, W.cell? ⟨g, i * 3 + 1, none⟩ = some u) ∧ (∃ u, W.cell? ⟨g, i * 3 + 2, none⟩ = some u) ∧ W.frozen? ⟨g, i * 3, none⟩ = false ∧ W.frozen? ⟨g, i * 3 + 1, none⟩ = false ∧ W.frozen? ⟨g, i * 3 + 2, none⟩ = false := by
  obtain ⟨cur, hg, hs⟩ := h
  refine ⟨?_, ?_, ?_, Lib.frozen_of_heap hg _, Lib.frozen_of_heap hg _, Lib.frozen_of_heap hg _⟩
  · exact ⟨cur[i * 3]'(by omega), by rw [Lib.cell_of_heap hg]; exact Array.getElem?_eq_getElem (by omega)⟩
  · exact ⟨cur[i * 3 + 1]'(by omega), by rw [Lib.cell_of_heap hg]; exact Array.getElem?_eq_getElem (by omega)⟩
  · exact ⟨cur[i * 3 + 2]'(by omega), by rw [Lib.cell_of_heap hg]; exact Array.getElem?_eq_getElem (by omega)⟩
def laRel (W : World) (B : Nat) (v2 : Value) (ts : List Tk) (tv : Value) (wr : World) : Prop :=
  ∃ t : Nat, tv = .int .i64 t ∧ t ≤ 2 ∧ Row wr B v2 ts ∧ Fr (fun _ => False) W wr
def zeRel (W : World) (B g : Nat) (v2 : Value) (ts : List Tk) (iv : Value) (wr : World) : Prop :=
  ∃ i : Nat, iv = .int .i64 i ∧ i ≤ ts.length ∧ Any3 wr g ts.length ∧ Row wr B v2 ts ∧ Fr (fun _ => False) W wr
set_option maxHeartbeats 8000000 in
theorem all_any (s : ByteArray) (W : World) (hs : s.size ≤ maxLen) :
    Calls Try.prog 3 #[.string s] W fun e w' => e = .returned (.bool true) ∧ Below W.heap.size W w' := by
  have HS := Lib.hid shown_any
  have CP := Lib.hid (fun w => pAll_any s hs w)
  have CR := Lib.hid (fun w => rAll_any s hs w)
  have hn := allA_len' s.data.toList
  generalize allA s.data.toList = A at *
  unfold allPost at CP CR
  generalize aT A = ts at *
  generalize aK A = kk at *
  generalize aE A = ee at *
  have g1 : ((((kk : Nat) : Int) != ((kk : Nat) : Int)) : Bool) = false := by simp
  have g2 : (((ee : Int) != ee) : Bool) = false := by simp
  clear hs
  go_enter Try.func3, Try.ntmps3
  go_wp2_with (first
    | (go_at_call 7; (with_reducible refine (HS.out _).mono ?_); rintro e w1 ⟨rfl, hF1⟩; have HF1 := Lib.hid hF1; clear hF1)
    | (go_at_call 8; (with_reducible refine (CR.out _).mono ?_); rintro e w2 ⟨v2, rfl, hr, hF2⟩; have HR2 := Lib.hid hr; have HF2 := Lib.hid (HF1.out.trans hF2); clear hr hF2))
  go_loopw [7, 8, 9, 10, 11, 12] (fun tv _ _ _ _ _ wr => laRel W w1.heap.size v2 ts tv wr) (fun tv _ _ _ _ _ _ => 2 - (intOf tv).toNat)
  case atStart => exact ⟨0, rfl, by omega, HR2.out, HF2.out⟩
  case round =>
    obtain ⟨t, rfl, ht, hr, hF⟩ := hrel
    clear HR2 HF2
    have HR := Lib.hid hr
    have HF := Lib.hid hF
    by_cases ht2 : t < 2
    · clear hr hF
      go_upto_region 8 with (first
        | (go_at_call 9; (with_reducible refine (CP.out _).mono ?_); rintro e w3 ⟨v1, rfl, hr, hF3⟩; have HR1 := Lib.hid hr; have HR3 := Lib.hid (HR.out.fr hF3 (fun _ _ => id)); have HF3 := Lib.hid (HF.out.trans hF3); clear hr hF3)
        | (go_at_call 10; (with_reducible refine (same_any _ _ _ _ _ ts true hn HR1.out HR3.out).mono ?_); rintro e w4 ⟨rfl, hF4⟩; have HR1' := Lib.hid (HR1.out.fr hF4 (fun _ _ => id)); have HR4 := Lib.hid (HR3.out.fr hF4 (fun _ _ => id)); have HF4 := Lib.hid (HF3.out.trans hF4); clear hF4))
      by_cases h0 : 0 < ts.length
      · obtain ⟨g, cap, rfl, hg1, hg2, hcap⟩ := row_open HR1'.out h0
        have HA := Lib.hid (Any3.of HR1'.out rfl)
        have HNE := Lib.hid (fun k hk => (show ¬ k = g from fun e => by have := (row_blk HR.out (k := k) hk).2; omega))
        have HG := Lib.hid (show W.heap.size ≤ g from Nat.le_trans HF.out.size hg1)
        clear hg1 hg2
        go_wp2
        go_loopw [12] (fun iv wr => zeRel W w1.heap.size g v2 ts iv wr) (fun iv _ => ts.length - (intOf iv).toNat)
        case atStart => exact ⟨0, rfl, Nat.zero_le _, HA.out, HR4.out, HF4.out⟩
        case round =>
          obtain ⟨i, rfl, hi, ha, hr, hF⟩ := hrel
          clear HA
          by_cases hlt : i < ts.length
          · obtain ⟨⟨u0, c0⟩, ⟨u1, c1⟩, ⟨u2, c2⟩, f0, f1, f2⟩ := ha.at i hlt
            have HA := Lib.hid ha
            have HR5 := Lib.hid hr
            have HF5 := Lib.hid hF
            clear ha hr hF
            go_wp2
            go_roundw
            case rel => exact ⟨i + 1, by go_num, hlt, ((HA.out.set _ _).set _ _).set _ _, row_fr' (row_fr' (row_fr' HR5.out (Fr.one _ g _ _) HNE.out) (Fr.one _ g _ _) HNE.out) (Fr.one _ g _ _) HNE.out, ((HF5.out.setCell (p := ⟨g, _, none⟩) (.inr HG.out) _).setCell (p := ⟨g, _, none⟩) (.inr HG.out) _).setCell (p := ⟨g, _, none⟩) (.inr HG.out) _⟩
            case measure => simp [intOf]; omega
          · obtain rfl : i = ts.length := by omega
            have HR5 := Lib.hid hr
            have HF5 := Lib.hid hF
            clear ha hr hF
            go_wp2
            go_roundw
            case rel => exact ⟨t + 1, by go_num, by omega, HR5.out, HF5.out⟩
            case measure => simp [intOf]; omega
      · obtain ⟨ao, cap, rfl, hcap⟩ := HR1'.out.slice
        have hz : ts.length = 0 := by omega
        rw [hz]
        go_wp2
        go_loopw [12] (fun iv wr => iv = .int .i64 0 ∧ Row wr w1.heap.size v2 ts ∧ Fr (fun _ => False) W wr) (fun iv _ => 0)
        case atStart => exact ⟨rfl, HR4.out, HF4.out⟩
        case round =>
          obtain ⟨rfl, hr, hF⟩ := hrel
          have HR5 := Lib.hid hr
          have HF5 := Lib.hid hF
          clear hr hF
          go_wp2
          go_roundw
          case rel => exact ⟨t + 1, by go_num, by omega, HR5.out, HF5.out⟩
          case measure => simp [intOf]; omega
    · obtain rfl : t = 2 := by omega
      clear hr hF
      go_wp2
      go_ret
      exact ⟨rfl, HF.out.bel (fun _ h => h.elim) (Nat.le_refl _)⟩
end Go.Proofs.Ytmkcenobghaoiaa
