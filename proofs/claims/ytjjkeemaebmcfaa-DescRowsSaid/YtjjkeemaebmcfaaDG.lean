/- Rows of numbers: Close, To, Put, Row, Same, plain. -/
import Derived.Test.YtjjkeemaebmcfaaDF
namespace Go.Proofs.Ytjjkeemaebmcfaa
open Go.RowKit
set_option linter.unusedVariables false
set_option linter.unusedSimpArgs false
variable {W W' : World}

/-- a row that is answered, or none. -/
def RowV (W : World) (base : Nat) (o : Option (List Int)) (v : Value) : Prop :=
  (o = none ∧ v = .slice none 0 0) ∨ ∃ l G cap, o = some l ∧ v = .slice (some ⟨G, 0, none⟩) l.length cap ∧ OR W base G cap l.length l
def closeO (l : List Int) (fd : Int) : Option (List Int) := if atB l fd then some (l.set fd.toNat (-1)) else none
def toB (l : List Int) (fd to : Int) : Bool := atB l fd && (decide (0 ≤ to) && decide (to < l.length))
def toO (l : List Int) (fd to : Int) : Option (List Int) := if toB l fd to then some (l.set to.toNat (atA l fd)) else none
def toW (l : List Int) (fd to : Int) : Int := if toB l fd to then (if fd = to then -1 else l[to.toNat]?.getD 0) else 0
def toE (l : List Int) (fd to : Int) : Int := if toB l fd to then 0 else 11
theorem atB_idx {l : List Int} {fd : Int} (h : atB l fd = true) : ∃ k : Nat, fd = k ∧ k < l.length := by
  simp [atB] at h
  exact ⟨fd.toNat, by omega, by omega⟩
theorem pclose_any (l : List Int) (g off n c : Nat) (fd : Int) (hn : l.length = n) (hb : n ≤ 1000) (w : World) (h : Rd w g off l) :
    Calls Try.prog 26 #[.slice (some ⟨g, off, none⟩) n c, .int .i64 fd] w fun r w' => ∃ v, r = .returned (.tuple #[v, .int .i64 (atA l fd), .bool (atB l fd)]) ∧ RowV w' w.heap.size (closeO l fd) v ∧ Fr (fun _ => False) w w' := by
  obtain ⟨O, hO⟩ : ∃ O, closeO l fd = O := ⟨_, rfl⟩
  obtain ⟨A, hA⟩ : ∃ A, atA l fd = A := ⟨_, rfl⟩
  have HA := pat_any l g off n c fd hn hb w h
  rw [hO, hA]
  rw [hA] at HA
  cases hB : atB l fd
  · rw [hB] at HA
    have hO2 : O = none := by rw [← hO]; unfold closeO; rw [hB]; rfl
    have hA2 : A = 0 := by rw [← hA]; unfold atA; rw [hB]; rfl
    subst hO2 hA2
    clear hO hA h hB
    go_enter Try.func26, Try.ntmps26
    go_wp2_with fail
    refine HA.mono ?_
    rintro r w1 ⟨rfl, f1⟩
    go_wp2
    go_ret3
    exact ⟨_, rfl, .inl ⟨rfl, rfl⟩, f1⟩
  · rw [hB] at HA
    obtain ⟨k, rfl, hk⟩ := atB_idx hB
    have hO2 : O = some (l.set k (-1)) := by rw [← hO]; unfold closeO; rw [hB]; rfl
    subst hO2
    clear hO hA hB
    have HC := fun W (H : Rd W g off l) => changed_any l g off n c k (-1) hn (by omega) hb W H
    go_enter Try.func26, Try.ntmps26
    go_wp2_with fail
    refine HA.mono ?_
    rintro r w1 ⟨rfl, f1⟩
    go_wp2_with fail
    refine (HC _ (h.fr f1 id)).mono ?_
    rintro r w2 ⟨G, cap, rfl, o2, f2⟩
    go_wp2
    go_ret3
    exact ⟨_, rfl, .inr ⟨_, G, cap, rfl, by simp [hn], by simpa [hn] using o2.weak f1.size⟩, f1.trans f2⟩
theorem rclose_any (l : List Int) (g off n c : Nat) (fd : Int) (hn : l.length = n) (hb : n ≤ 1000) (w : World) (h : Rd w g off l) :
    Calls Try.prog 27 #[.slice (some ⟨g, off, none⟩) n c, .int .i64 fd] w fun r w' => ∃ v, r = .returned (.tuple #[v, .int .i64 (atA l fd), .bool (atB l fd)]) ∧ RowV w' w.heap.size (closeO l fd) v ∧ Fr (fun _ => False) w w' := by
  obtain ⟨O, hO⟩ : ∃ O, closeO l fd = O := ⟨_, rfl⟩
  obtain ⟨A, hA⟩ : ∃ A, atA l fd = A := ⟨_, rfl⟩
  have HA := rat_any l g off n c fd hn hb w h
  rw [hO, hA]
  rw [hA] at HA
  cases hB : atB l fd
  · rw [hB] at HA
    have hO2 : O = none := by rw [← hO]; unfold closeO; rw [hB]; rfl
    have hA2 : A = 0 := by rw [← hA]; unfold atA; rw [hB]; rfl
    subst hO2 hA2
    clear hO hA h hB
    go_enter Try.func27, Try.ntmps27
    go_wp2_with fail
    refine HA.mono ?_
    rintro r w1 ⟨rfl, f1⟩
    go_wp2
    go_ret3
    exact ⟨_, rfl, .inl ⟨rfl, rfl⟩, f1⟩
  · rw [hB] at HA
    obtain ⟨k, rfl, hk⟩ := atB_idx hB
    have hO2 : O = some (l.set k (-1)) := by rw [← hO]; unfold closeO; rw [hB]; rfl
    subst hO2
    clear hO hA hB
    have HC := fun W (H : Rd W g off l) => with_any l g off n c k (-1) hn (by omega) hb W H
    go_enter Try.func27, Try.ntmps27
    go_wp2_with fail
    refine HA.mono ?_
    rintro r w1 ⟨rfl, f1⟩
    go_wp2_with fail
    refine (HC _ (h.fr f1 id)).mono ?_
    rintro r w2 ⟨G, cap, rfl, o2, f2⟩
    go_wp2
    go_ret3
    exact ⟨_, rfl, .inr ⟨_, G, cap, rfl, by simp [hn], by simpa [hn] using o2.weak f1.size⟩, f1.trans f2⟩
theorem pto_any (l : List Int) (g off n c : Nat) (fd to : Int) (hn : l.length = n) (hb : n ≤ 1000) (w : World) (h : Rd w g off l) :
    Calls Try.prog 28 #[.slice (some ⟨g, off, none⟩) n c, .int .i64 fd, .int .i64 to] w fun r w' => ∃ v, r = .returned (.tuple #[v, .int .i64 (toW l fd to), .int .i64 (toE l fd to)]) ∧ RowV w' w.heap.size (toO l fd to) v ∧ Fr (fun _ => False) w w' := by
  obtain ⟨O, hO⟩ : ∃ O, toO l fd to = O := ⟨_, rfl⟩
  obtain ⟨X, hX⟩ : ∃ X, toW l fd to = X := ⟨_, rfl⟩
  obtain ⟨E, hE⟩ : ∃ E, toE l fd to = E := ⟨_, rfl⟩
  have HA := pat_any l g off n c fd hn hb w h
  rw [hO, hX, hE]
  cases hT : toB l fd to
  · have hO2 : O = none := by rw [← hO]; unfold toO; rw [hT]; rfl
    have hX2 : X = 0 := by rw [← hX]; unfold toW; rw [hT]; rfl
    have hE2 : E = 11 := by rw [← hE]; unfold toE; rw [hT]; rfl
    subst hO2 hX2 hE2
    clear hO hX hE
    generalize atA l fd = A at *
    unfold toB at hT
    cases hB : atB l fd
    · rw [hB] at HA
      clear hT hB h
      go_enter Try.func28, Try.ntmps28
      go_wp2_with fail
      refine HA.mono ?_
      rintro r w1 ⟨rfl, f1⟩
      go_wp2
      go_ret3
      exact ⟨_, rfl, .inl ⟨rfl, rfl⟩, f1⟩
    · rw [hB] at HA hT
      have hq : ¬ (0 ≤ to) ∨ (0 ≤ to ∧ ¬ (to < (n : Int))) := by
        simp [hn] at hT
        omega
      clear hT hB h
      have h2 : (decide (0 ≤ to) && decide (to < (n : Int))) = false := by
        rcases hq with e | ⟨e, e2⟩ <;> simp [e]
        omega
      have HI := fun W => index_any g off n c to W
      rw [h2] at HI
      rcases hq with hq | ⟨hq, hq2⟩
      all_goals
        go_enter Try.func28, Try.ntmps28
        go_wp2_with fail
        refine HA.mono ?_
        rintro r w1 ⟨rfl, f1⟩
        go_wp2_with fail
        refine (HI _).mono ?_
        rintro r w2 ⟨rfl, rfl⟩
        go_wp2
        go_ret3
        exact ⟨_, rfl, .inl ⟨rfl, rfl⟩, f1⟩
  · have hT0 := hT
    unfold toB at hT
    simp only [Bool.and_eq_true, decide_eq_true_eq] at hT
    obtain ⟨hB, q1, q2⟩ := hT
    obtain ⟨k, rfl, hk⟩ := atB_idx hB
    obtain ⟨m, rfl⟩ : ∃ m : Nat, to = m := ⟨to.toNat, by omega⟩
    have hm : m < l.length := by omega
    rw [hB] at HA
    have hA := atA_lit hk hB
    have hc := h m (l[m]'hm) (List.getElem?_eq_getElem _)
    have hO2 : O = some (l.set m (atA l k)) := by rw [← hO]; unfold toO; rw [hT0]; rfl
    have hE2 : E = 0 := by rw [← hE]; unfold toE; rw [hT0]; rfl
    have hX2 : X = if (k : Int) = m then -1 else l[m]'hm := by rw [← hX]; unfold toW; rw [hT0]; simp [hm]
    have HI := fun W => index_any g off n c m W
    rw [show (decide (0 ≤ (m : Int)) && decide ((m : Int) < (n : Int))) = true by simp; omega] at HI
    have HC := fun W (H : Rd W g off l) => changed_any l g off n c m (atA l k) hn (by omega) hb W H
    have HR := Lib.hid (fun W (f : Fr (fun _ => False) w W) => h.fr f id)
    have hm2 : (m : Int) < (n : Int) := by omega
    have hm0 : (0 : Int) ≤ (m : Int) := by omega
    subst hO2 hE2
    generalize atA l k = A at *
    generalize l[m]'hm = v at *
    clear hO hX hE hT0 hA h
    by_cases hkm : (k : Int) = m
    · obtain rfl : k = m := by omega
      rw [if_pos rfl] at hX2
      subst hX2
      clear hkm
      go_enter Try.func28, Try.ntmps28
      go_wp2_with fail
      refine HA.mono ?_
      rintro r w1 ⟨rfl, f1⟩
      have c1 := f1.cell hc id
      clear hc
      go_wp2_with fail
      refine (HI _).mono ?_
      rintro r w2 ⟨rfl, rfl⟩
      go_wp2_with fail
      refine (HC _ (HR.out _ f1)).mono ?_
      rintro r w2 ⟨G, cap, rfl, o2, f2⟩
      go_wp2
      go_ret3
      exact ⟨_, rfl, .inr ⟨_, G, cap, rfl, by simp [hn], by simpa [hn] using o2.weak f1.size⟩, f1.trans f2⟩
    · rw [if_neg hkm] at hX2
      subst hX2
      have hne : ((k : Int) == m) = false := by simpa using hkm
      clear hkm
      go_enter Try.func28, Try.ntmps28
      go_wp2_with fail
      refine HA.mono ?_
      rintro r w1 ⟨rfl, f1⟩
      have c1 := f1.cell hc id
      clear hc
      go_wp2_with fail
      refine (HI _).mono ?_
      rintro r w2 ⟨rfl, rfl⟩
      go_wp2_with fail
      refine (HC _ (HR.out _ f1)).mono ?_
      rintro r w2 ⟨G, cap, rfl, o2, f2⟩
      go_wp2
      go_ret3
      exact ⟨_, rfl, .inr ⟨_, G, cap, rfl, by simp [hn], by simpa [hn] using o2.weak f1.size⟩, f1.trans f2⟩
theorem rto_any (l : List Int) (g off n c : Nat) (fd to : Int) (hn : l.length = n) (hb : n ≤ 1000) (w : World) (h : Rd w g off l) :
    Calls Try.prog 29 #[.slice (some ⟨g, off, none⟩) n c, .int .i64 fd, .int .i64 to] w fun r w' => ∃ v, r = .returned (.tuple #[v, .int .i64 (toW l fd to), .int .i64 (toE l fd to)]) ∧ RowV w' w.heap.size (toO l fd to) v ∧ Fr (fun _ => False) w w' := by
  obtain ⟨O, hO⟩ : ∃ O, toO l fd to = O := ⟨_, rfl⟩
  obtain ⟨X, hX⟩ : ∃ X, toW l fd to = X := ⟨_, rfl⟩
  obtain ⟨E, hE⟩ : ∃ E, toE l fd to = E := ⟨_, rfl⟩
  have HA := rat_any l g off n c fd hn hb w h
  rw [hO, hX, hE]
  cases hT : toB l fd to
  · have hO2 : O = none := by rw [← hO]; unfold toO; rw [hT]; rfl
    have hX2 : X = 0 := by rw [← hX]; unfold toW; rw [hT]; rfl
    have hE2 : E = 11 := by rw [← hE]; unfold toE; rw [hT]; rfl
    subst hO2 hX2 hE2
    clear hO hX hE
    generalize atA l fd = A at *
    unfold toB at hT
    cases hB : atB l fd
    · rw [hB] at HA
      clear hT hB h
      go_enter Try.func29, Try.ntmps29
      go_wp2_with fail
      refine HA.mono ?_
      rintro r w1 ⟨rfl, f1⟩
      go_wp2
      go_ret3
      exact ⟨_, rfl, .inl ⟨rfl, rfl⟩, f1⟩
    · rw [hB] at HA hT
      have hq : ¬ (0 ≤ to) ∨ (0 ≤ to ∧ ¬ (to < (n : Int))) := by
        simp [hn] at hT
        omega
      clear hT hB h
      have h2 : (decide (0 ≤ to) && decide (to < (n : Int))) = false := by
        rcases hq with e | ⟨e, e2⟩ <;> simp [e]
        omega
      have HI := fun W => index_any g off n c to W
      rw [h2] at HI
      rcases hq with hq | ⟨hq, hq2⟩
      all_goals
        go_enter Try.func29, Try.ntmps29
        go_wp2_with fail
        refine HA.mono ?_
        rintro r w1 ⟨rfl, f1⟩
        go_wp2
        go_ret3
        exact ⟨_, rfl, .inl ⟨rfl, rfl⟩, f1⟩
  · have hT0 := hT
    unfold toB at hT
    simp only [Bool.and_eq_true, decide_eq_true_eq] at hT
    obtain ⟨hB, q1, q2⟩ := hT
    obtain ⟨k, rfl, hk⟩ := atB_idx hB
    obtain ⟨m, rfl⟩ : ∃ m : Nat, to = m := ⟨to.toNat, by omega⟩
    have hm : m < l.length := by omega
    rw [hB] at HA
    have hA := atA_lit hk hB
    have hc := h m (l[m]'hm) (List.getElem?_eq_getElem _)
    have hO2 : O = some (l.set m (atA l k)) := by rw [← hO]; unfold toO; rw [hT0]; rfl
    have hE2 : E = 0 := by rw [← hE]; unfold toE; rw [hT0]; rfl
    have hX2 : X = if (k : Int) = m then -1 else l[m]'hm := by rw [← hX]; unfold toW; rw [hT0]; simp [hm]
    have HI := fun W => index_any g off n c m W
    rw [show (decide (0 ≤ (m : Int)) && decide ((m : Int) < (n : Int))) = true by simp; omega] at HI
    have HC := fun W (H : Rd W g off l) => with_any l g off n c m (atA l k) hn (by omega) hb W H
    have HR := Lib.hid (fun W (f : Fr (fun _ => False) w W) => h.fr f id)
    have hm2 : (m : Int) < (n : Int) := by omega
    have hm0 : (0 : Int) ≤ (m : Int) := by omega
    subst hO2 hE2
    generalize atA l k = A at *
    generalize l[m]'hm = v at *
    clear hO hX hE hT0 hA h
    by_cases hkm : (k : Int) = m
    · obtain rfl : k = m := by omega
      rw [if_pos rfl] at hX2
      subst hX2
      clear hkm
      go_enter Try.func29, Try.ntmps29
      go_wp2_with fail
      refine HA.mono ?_
      rintro r w1 ⟨rfl, f1⟩
      have c1 := f1.cell hc id
      clear hc
      go_wp2_with fail
      refine (HC _ (HR.out _ f1)).mono ?_
      rintro r w2 ⟨G, cap, rfl, o2, f2⟩
      go_wp2
      go_ret3
      exact ⟨_, rfl, .inr ⟨_, G, cap, rfl, by simp [hn], by simpa [hn] using o2.weak f1.size⟩, f1.trans f2⟩
    · rw [if_neg hkm] at hX2
      subst hX2
      have hne : ((k : Int) == m) = false := by simpa using hkm
      clear hkm
      go_enter Try.func29, Try.ntmps29
      go_wp2_with fail
      refine HA.mono ?_
      rintro r w1 ⟨rfl, f1⟩
      have c1 := f1.cell hc id
      clear hc
      go_wp2_with fail
      refine (HC _ (HR.out _ f1)).mono ?_
      rintro r w2 ⟨G, cap, rfl, o2, f2⟩
      go_wp2
      go_ret3
      exact ⟨_, rfl, .inr ⟨_, G, cap, rfl, by simp [hn], by simpa [hn] using o2.weak f1.size⟩, f1.trans f2⟩
end Go.Proofs.Ytjjkeemaebmcfaa
