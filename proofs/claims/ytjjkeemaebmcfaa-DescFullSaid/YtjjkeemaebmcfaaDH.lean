/- Rows of numbers: Put, Row, Same, plain. -/
import Derived.Test.YtjjkeemaebmcfaaDG
namespace Go.Proofs.Ytjjkeemaebmcfaa
open Go.RowKit
set_option linter.unusedVariables false
set_option linter.unusedSimpArgs false
variable {W W' : World}

/-- the first place without a number, of the last m. -/
def pfr (l : List Int) : Nat → Nat
  | 0 => l.length
  | m + 1 => if l[l.length - (m + 1)]?.getD 0 = -1 then l.length - (m + 1) else pfr l m
theorem pfr_step {l : List Int} {k : Nat} (hk : k < l.length) : pfr l (l.length - k) = if l[k] = -1 then k else pfr l (l.length - (k + 1)) := by
  rw [show l.length - k = (l.length - (k + 1)) + 1 by omega, pfr, show l.length - (l.length - (k + 1) + 1) = k by omega, List.getElem?_eq_getElem hk]
  rfl
theorem pfr_step2 {l : List Int} {n k : Nat} (hn : l.length = n) (hk : k < n) (hl : k < l.length) : pfr l (n - k) = if l[k] = -1 then k else pfr l (n - (k + 1)) := by
  subst hn
  exact pfr_step hl
theorem pfr_le (l : List Int) : ∀ m, pfr l m ≤ l.length
  | 0 => Nat.le_refl _
  | m + 1 => by
    unfold pfr
    split
    · omega
    · exact pfr_le l m
def putK (l : List Int) (from_ : Int) : Nat := pfr l (l.length - from_.toNat)
def putO (l : List Int) (n from_ : Int) : Option (List Int) := if putK l from_ < l.length then some (l.set (putK l from_) n) else none
def putX (l : List Int) (from_ : Int) : Nat := if putK l from_ < l.length then putK l from_ else 0
def putE (l : List Int) (from_ : Int) : Int := if putK l from_ < l.length then 0 else 12
theorem put_at {l : List Int} {from_ : Int} {k : Nat} (hk : k < l.length) (h : putK l from_ = k) (n : Int) : putO l n from_ = some (l.set k n) ∧ putX l from_ = k ∧ putE l from_ = 0 := by
  unfold putO putX putE; rw [h]; simp [hk]
theorem put_none {l : List Int} {from_ : Int} (h : putK l from_ = l.length) (n : Int) : putO l n from_ = none ∧ putX l from_ = 0 ∧ putE l from_ = 12 := by
  unfold putO putX putE; rw [h]; simp
theorem pput_any (l : List Int) (g off n c : Nat) (x from_ : Int) (hn : l.length = n) (hb : n ≤ 1000) (w : World) (h : Rd w g off l) :
    Calls Try.prog 23 #[.slice (some ⟨g, off, none⟩) n c, .int .i64 x, .int .i64 from_] w fun r w' => ∃ v, r = .returned (.tuple #[v, .int .i64 (putX l from_ : Nat), .int .i64 (putE l from_)]) ∧ RowV w' w.heap.size (putO l x from_) v ∧ Fr (fun _ => False) w w' := by
  obtain ⟨O, hO⟩ : ∃ O, putO l x from_ = O := ⟨_, rfl⟩
  obtain ⟨X, hX⟩ : ∃ X, putX l from_ = X := ⟨_, rfl⟩
  obtain ⟨E, hE⟩ : ∃ E, putE l from_ = E := ⟨_, rfl⟩
  rw [hO, hX, hE]
  have HQ := Lib.hid (And.intro hO (And.intro hX hE))
  clear hO hX hE
  have H := Lib.hid h
  have HC := Lib.hid (fun k (hk : k < n) => changed_any l g off n c k x hn hk hb w h)
  obtain ⟨f, hf⟩ : ∃ f : Nat, f = from_.toNat := ⟨_, rfl⟩
  have hk0 : putK l from_ = pfr l (n - f) := by unfold putK; rw [hf, hn]
  have HK := Lib.hid hk0
  clear hk0
  have key : from_ < 0 ∧ f = 0 ∨ 0 ≤ from_ ∧ (f : Int) = from_ := by omega
  clear hf h
  have body : ∀ (k : Nat) (hlt : k < n), pfr l (n - f) = pfr l (n - k) → (l[k]'(by omega) = -1 → O = some (l.set k x) ∧ X = k ∧ E = 0) ∧ (¬ (l[k]'(by omega) = -1) → pfr l (n - f) = pfr l (n - (k + 1))) := by
    intro k hlt hk
    have hs := pfr_step2 hn hlt (show k < l.length by omega)
    rw [hs] at hk
    refine ⟨fun e => ?_, fun e => ?_⟩
    · rw [if_pos e] at hk
      obtain ⟨q1, q2, q3⟩ := put_at (from_ := from_) (show k < l.length by omega) (HK.out.trans hk) x
      exact ⟨HQ.out.1.symm.trans q1, HQ.out.2.1.symm.trans q2, HQ.out.2.2.symm.trans q3⟩
    · rw [if_neg e] at hk
      exact hk
  have last : pfr l (n - f) = n → O = none ∧ X = 0 ∧ E = 12 := by
    intro e
    obtain ⟨q1, q2, q3⟩ := put_none (from_ := from_) (HK.out.trans (e.trans hn.symm)) x
    exact ⟨HQ.out.1.symm.trans q1, HQ.out.2.1.symm.trans q2, HQ.out.2.2.symm.trans q3⟩
  have BODY := Lib.hid body
  have LAST := Lib.hid last
  clear body last
  rcases key with ⟨k1, rfl⟩ | ⟨k1, rfl⟩
  · go_enter Try.func23, Try.ntmps23
    go_wp2
    go_loopw [9] (fun iv w' => ∃ k : Nat, iv = .int .i64 k ∧ w' = w ∧ pfr l (n - 0) = pfr l (n - k)) (fun iv _ => n - (intOf iv).toNat)
    case atStart => exact ⟨0, by go_num, rfl, rfl⟩
    case round =>
      obtain ⟨k, rfl, rfl, hrel⟩ := hrel
      by_cases hlt : k < n
      · have hc := H.out k (l[k]'(by omega)) (List.getElem?_eq_getElem _)
        have B := BODY.out k hlt hrel
        generalize l[k]'(by omega) = v at *
        by_cases hv : v = -1
        · subst hv
          have HC2 := HC.out k hlt
          obtain ⟨rfl, rfl, rfl⟩ := B.1 rfl
          clear B hrel
          go_wp2_with fail
          refine HC2.mono ?_
          rintro r w1 ⟨G, cap, rfl, o1, f1⟩
          go_wp2
          go_ret3
          exact ⟨_, rfl, .inr ⟨_, G, cap, rfl, by simp [hn], by simpa [hn] using o1⟩, f1⟩
        · have B2 := B.2 hv
          have hv2 : (v == -1) = false := by simpa using hv
          clear B hv hrel
          go_wp2
          go_roundw
          case rel => exact ⟨k + 1, by go_num, by trivial, B2⟩
          case measure => simp [intOf]; omega
      · rw [show n - k = 0 by omega] at hrel
        obtain ⟨rfl, rfl, rfl⟩ := LAST.out (hrel.trans hn)
        clear hrel
        go_wp2
        go_ret3
        exact ⟨_, rfl, .inl ⟨rfl, rfl⟩, Fr.refl _ _⟩
  · go_enter Try.func23, Try.ntmps23
    go_wp2
    go_loopw [9] (fun iv w' => ∃ k : Nat, iv = .int .i64 k ∧ w' = w ∧ pfr l (n - f) = pfr l (n - k)) (fun iv _ => n - (intOf iv).toNat)
    case atStart => exact ⟨f, by go_num, rfl, rfl⟩
    case round =>
      obtain ⟨k, rfl, rfl, hrel⟩ := hrel
      by_cases hlt : k < n
      · have hc := H.out k (l[k]'(by omega)) (List.getElem?_eq_getElem _)
        have B := BODY.out k hlt hrel
        generalize l[k]'(by omega) = v at *
        by_cases hv : v = -1
        · subst hv
          have HC2 := HC.out k hlt
          obtain ⟨rfl, rfl, rfl⟩ := B.1 rfl
          clear B hrel
          go_wp2_with fail
          refine HC2.mono ?_
          rintro r w1 ⟨G, cap, rfl, o1, f1⟩
          go_wp2
          go_ret3
          exact ⟨_, rfl, .inr ⟨_, G, cap, rfl, by simp [hn], by simpa [hn] using o1⟩, f1⟩
        · have B2 := B.2 hv
          have hv2 : (v == -1) = false := by simpa using hv
          clear B hv hrel
          go_wp2
          go_roundw
          case rel => exact ⟨k + 1, by go_num, by trivial, B2⟩
          case measure => simp [intOf]; omega
      · rw [show n - k = 0 by omega] at hrel
        obtain ⟨rfl, rfl, rfl⟩ := LAST.out (hrel.trans hn)
        clear hrel
        go_wp2
        go_ret3
        exact ⟨_, rfl, .inl ⟨rfl, rfl⟩, Fr.refl _ _⟩
theorem rput_any (l : List Int) (g off n c : Nat) (x from_ : Int) (hn : l.length = n) (hb : n ≤ 1000) (w : World) (h : Rd w g off l) :
    Calls Try.prog 24 #[.slice (some ⟨g, off, none⟩) n c, .int .i64 x, .int .i64 from_] w fun r w' => ∃ v, r = .returned (.tuple #[v, .int .i64 (putX l from_ : Nat), .int .i64 (putE l from_)]) ∧ RowV w' w.heap.size (putO l x from_) v ∧ Fr (fun _ => False) w w' := by
  obtain ⟨O, hO⟩ : ∃ O, putO l x from_ = O := ⟨_, rfl⟩
  obtain ⟨X, hX⟩ : ∃ X, putX l from_ = X := ⟨_, rfl⟩
  obtain ⟨E, hE⟩ : ∃ E, putE l from_ = E := ⟨_, rfl⟩
  rw [hO, hX, hE]
  have HQ := Lib.hid (And.intro hO (And.intro hX hE))
  clear hO hX hE
  have H := Lib.hid h
  have HC := Lib.hid (fun k (hk : k < n) => with_any l g off n c k x hn hk hb w h)
  obtain ⟨f, hf⟩ : ∃ f : Nat, f = from_.toNat := ⟨_, rfl⟩
  have hk0 : putK l from_ = pfr l (n - f) := by unfold putK; rw [hf, hn]
  have HK := Lib.hid hk0
  clear hk0
  have key : from_ ≤ 0 ∧ f = 0 ∨ 0 < from_ ∧ (f : Int) = from_ := by omega
  clear hf h
  have body : ∀ (k : Nat) (hlt : k < n), pfr l (n - f) = pfr l (n - k) → (l[k]'(by omega) = -1 → O = some (l.set k x) ∧ X = k ∧ E = 0) ∧ (¬ (l[k]'(by omega) = -1) → pfr l (n - f) = pfr l (n - (k + 1))) := by
    intro k hlt hk
    have hs := pfr_step2 hn hlt (show k < l.length by omega)
    rw [hs] at hk
    refine ⟨fun e => ?_, fun e => ?_⟩
    · rw [if_pos e] at hk
      obtain ⟨q1, q2, q3⟩ := put_at (from_ := from_) (show k < l.length by omega) (HK.out.trans hk) x
      exact ⟨HQ.out.1.symm.trans q1, HQ.out.2.1.symm.trans q2, HQ.out.2.2.symm.trans q3⟩
    · rw [if_neg e] at hk
      exact hk
  have last : pfr l (n - f) = n → O = none ∧ X = 0 ∧ E = 12 := by
    intro e
    obtain ⟨q1, q2, q3⟩ := put_none (from_ := from_) (HK.out.trans (e.trans hn.symm)) x
    exact ⟨HQ.out.1.symm.trans q1, HQ.out.2.1.symm.trans q2, HQ.out.2.2.symm.trans q3⟩
  have BODY := Lib.hid body
  have LAST := Lib.hid last
  clear body last
  rcases key with ⟨k1, rfl⟩ | ⟨k1, rfl⟩
  · go_enter Try.func24, Try.ntmps24
    go_wp2
    go_loopw [9] (fun iv w' => ∃ k : Nat, iv = .int .i64 k ∧ w' = w ∧ pfr l (n - 0) = pfr l (n - k)) (fun iv _ => n - (intOf iv).toNat)
    case atStart => exact ⟨0, by go_num, rfl, rfl⟩
    case round =>
      obtain ⟨k, rfl, rfl, hrel⟩ := hrel
      by_cases hlt : k < n
      · have hc := H.out k (l[k]'(by omega)) (List.getElem?_eq_getElem _)
        have B := BODY.out k hlt hrel
        generalize l[k]'(by omega) = v at *
        by_cases hv : v = -1
        · subst hv
          have HC2 := HC.out k hlt
          obtain ⟨rfl, rfl, rfl⟩ := B.1 rfl
          clear B hrel
          go_wp2_with fail
          refine HC2.mono ?_
          rintro r w1 ⟨G, cap, rfl, o1, f1⟩
          go_wp2
          go_ret3
          exact ⟨_, rfl, .inr ⟨_, G, cap, rfl, by simp [hn], by simpa [hn] using o1⟩, f1⟩
        · have B2 := B.2 hv
          have hv2 : (v == -1) = false := by simpa using hv
          clear B hv hrel
          go_wp2
          go_roundw
          case rel => exact ⟨k + 1, by go_num, by trivial, B2⟩
          case measure => simp [intOf]; omega
      · rw [show n - k = 0 by omega] at hrel
        obtain ⟨rfl, rfl, rfl⟩ := LAST.out (hrel.trans hn)
        clear hrel
        go_wp2
        go_ret3
        exact ⟨_, rfl, .inl ⟨rfl, rfl⟩, Fr.refl _ _⟩
  · go_enter Try.func24, Try.ntmps24
    go_wp2
    go_loopw [9] (fun iv w' => ∃ k : Nat, iv = .int .i64 k ∧ w' = w ∧ pfr l (n - f) = pfr l (n - k)) (fun iv _ => n - (intOf iv).toNat)
    case atStart => exact ⟨f, by go_num, rfl, rfl⟩
    case round =>
      obtain ⟨k, rfl, rfl, hrel⟩ := hrel
      by_cases hlt : k < n
      · have hc := H.out k (l[k]'(by omega)) (List.getElem?_eq_getElem _)
        have B := BODY.out k hlt hrel
        generalize l[k]'(by omega) = v at *
        by_cases hv : v = -1
        · subst hv
          have HC2 := HC.out k hlt
          obtain ⟨rfl, rfl, rfl⟩ := B.1 rfl
          clear B hrel
          go_wp2_with fail
          refine HC2.mono ?_
          rintro r w1 ⟨G, cap, rfl, o1, f1⟩
          go_wp2
          go_ret3
          exact ⟨_, rfl, .inr ⟨_, G, cap, rfl, by simp [hn], by simpa [hn] using o1⟩, f1⟩
        · have B2 := B.2 hv
          have hv2 : (v == -1) = false := by simpa using hv
          clear B hv hrel
          go_wp2
          go_roundw
          case rel => exact ⟨k + 1, by go_num, by trivial, B2⟩
          case measure => simp [intOf]; omega
      · rw [show n - k = 0 by omega] at hrel
        obtain ⟨rfl, rfl, rfl⟩ := LAST.out (hrel.trans hn)
        clear hrel
        go_wp2
        go_ret3
        exact ⟨_, rfl, .inl ⟨rfl, rfl⟩, Fr.refl _ _⟩
/-- a slice that reads as these. -/
def Sl (W : World) (v : Value) (l : List Int) : Prop := (v = .slice none 0 0 ∧ l = []) ∨ ∃ g off cap, v = .slice (some ⟨g, off, none⟩) l.length cap ∧ Rd W g off l
theorem RowV.sl {base : Nat} {o : Option (List Int)} {v : Value} (h : RowV W base o v) : Sl W v (o.getD []) := by
  rcases h with ⟨rfl, rfl⟩ | ⟨l, G, cap, rfl, rfl, h⟩
  · exact .inl ⟨rfl, rfl⟩
  · exact .inr ⟨G, 0, cap, rfl, h.rd⟩
theorem same_read (l m : List Int) (ga oa ca gb ob cb n : Nat) (hl : l.length = n) (hm : m.length = n) (hb : n ≤ 1000) (w : World) (ha : Rd w ga oa l) (hbd : Rd w gb ob m) :
    Calls Try.prog 25 #[.slice (some ⟨ga, oa, none⟩) n ca, .slice (some ⟨gb, ob, none⟩) n cb] w fun r w' => r = .returned (.bool (decide (l = m))) ∧ Fr (fun _ => False) w w' := by
  have HA := Lib.hid ha
  have HB := Lib.hid hbd
  clear ha hbd
  obtain ⟨R, hR⟩ : ∃ R, decide (l = m) = R := ⟨_, rfl⟩
  rw [hR]
  have HR := Lib.hid hR
  clear hR
  go_enter Try.func25, Try.ntmps25
  go_wp2
  go_loopw [5] (fun iv w' => ∃ k : Nat, iv = .int .i64 k ∧ k ≤ n ∧ Fr (fun _ => False) w w' ∧ l.take k = m.take k) (fun iv _ => n - (intOf iv).toNat)
  case atStart => exact ⟨0, rfl, by omega, Fr.refl _ _, rfl⟩
  case round =>
    obtain ⟨k, rfl, hk, hf, htk⟩ := hrel
    by_cases hlt : k < n
    · have c1 := hf.cell (HA.out k (l[k]'(by omega)) (List.getElem?_eq_getElem _)) id
      have c2 := hf.cell (HB.out k (m[k]'(by omega)) (List.getElem?_eq_getElem _)) id
      have t1 : l.take (k + 1) = l.take k ++ [l[k]'(by omega)] := by rw [List.take_add_one, List.getElem?_eq_getElem (by omega)]; rfl
      have t2 : m.take (k + 1) = m.take k ++ [m[k]'(by omega)] := by rw [List.take_add_one, List.getElem?_eq_getElem (by omega)]; rfl
      generalize l[k]'(by omega) = x at *
      generalize m[k]'(by omega) = y at *
      by_cases hxy : x = y
      · subst hxy
        have HT := Lib.hid (show l.take (k + 1) = m.take (k + 1) by rw [t1, t2, htk])
        clear t1 t2 htk
        go_wp2_with fail
        go_region
        go_wp2
        go_roundw
        case rel => exact ⟨k + 1, by go_num, by omega, hf.drew, HT.out⟩
        case measure => simp [intOf]; omega
      · have hne : (x == y) = false := by simpa using hxy
        have HR2 : R = false := by
          rw [← HR.out]
          refine decide_eq_false fun e => hxy ?_
          subst e
          rw [t1] at t2
          simpa using t2
        subst HR2
        clear t1 t2 htk hxy
        go_wp2_with fail
        go_region
        go_wp2
        go_ret
        exact ⟨rfl, hf.drew⟩
    · obtain rfl : k = n := by omega
      have HR2 : R = true := by
        rw [← HR.out]
        rw [List.take_of_length_le (by omega), List.take_of_length_le (by omega)] at htk
        exact decide_eq_true htk
      subst HR2
      clear htk
      go_wp2
      go_ret
      exact ⟨rfl, hf⟩
end Go.Proofs.Ytjjkeemaebmcfaa
