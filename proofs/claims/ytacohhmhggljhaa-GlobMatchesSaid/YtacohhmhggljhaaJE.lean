/- Contract of the document's Has; the law GlobTells: the walk. -/
import Derived.Test.YtacohhmhggljhaaJD
namespace Go.Proofs.Ytacohhmhggljhaa
open Go.RowKit
set_option linter.unusedVariables false
set_option linter.unusedSimpArgs false
theorem cells_len (d : DP) : d.cells.toList.length = 259 := by rw [Array.length_toList]; exact pC_size _ _ _ _
theorem flatD_cons (d : DP) (D : List DP) : flatD (d :: D) = d.cells.toList ++ flatD D := by unfold flatD; rw [List.flatMap_cons]
theorem flatD_get : ∀ (D : List DP) (i : Nat) (h : i < D.length) (j : Nat), j < 259 → (flatD D)[i * 259 + j]? = (D[i]).cells[j]?
  | d :: D, 0, _, j, hj => by
    rw [flatD_cons, List.getElem?_append_left (by rw [cells_len]; omega), Nat.zero_mul, Nat.zero_add]
    exact Array.getElem?_toList
  | d :: D, i + 1, h, j, hj => by
    rw [flatD_cons, List.getElem?_append_right (by rw [cells_len]; omega), cells_len, show (i + 1) * 259 + j - 259 = i * 259 + j by omega, flatD_get D i (by simpa using h) j hj]
    rfl
/-- a row of parts that is read. -/
def DAt (W : World) (pn : Option Addr) (D : List DP) : Prop := ∀ i (h : i < D.length), ∃ g, pn = some ⟨g, 0, none⟩ ∧ ∀ j, j < 259 → W.cell? ⟨g, i * 259 + j, none⟩ = (D[i]).cells[j]?
theorem DRow.at_ {w W : World} {v : Value} {D : List DP} (h : DRow w W v D) : ∃ pn cap, v = .slice pn D.length cap ∧ DAt W pn D ∧ (∀ a, pn = some a → w.heap.size ≤ a.block) := by
  have ho := h.own
  rcases ho.2 with ⟨rfl, h0⟩ | ⟨g, cap, cur, rfl, hb, _⟩
  · exact ⟨none, 0, by rw [h0], fun i hi => by omega, fun a e => by cases e⟩
  · refine ⟨_, cap, rfl, fun i hi => ⟨g, rfl, fun j hj => ?_⟩, fun a e => by cases e; exact hb⟩
    rw [ho.cellAt (i * 259 + j) (by
      have : (i + 1) * 259 ≤ D.length * 259 := Nat.mul_le_mul_right _ hi
      omega), flatD_get D i hi j hj]
theorem rparts_at (p : ByteArray) (hp : p.size ≤ 4294967296) (w : World) :
    Calls Try.prog 23 #[.string p] w fun e w' => ∃ (pn : Option Addr) (cap : Nat) (D : List DP), e = .returned (.slice pn D.length cap) ∧ DAt w' pn D ∧ Below w.heap.size w w' ∧ D.map DP.prt = parts (toks p.data.toList) ∧ (∀ d ∈ D, d.ok) ∧ D.length ≤ p.size ∧ (∀ a, pn = some a → w.heap.size ≤ a.block) := by
  refine (rparts_any p hp w).mono ?_
  rintro e w' ⟨v, D, rfl, hd, h1, h2, h3⟩
  obtain ⟨pn, cap, rfl, ha, hb⟩ := hd.at_
  exact ⟨pn, cap, D, rfl, ha, hd.bel, h1, h2, h3, hb⟩
theorem dp_special {d : DP} (h : d.ok) : d.prt.special = decide (d.k ≠ 99) := by
  obtain ⟨k, c, n, f⟩ := d
  rcases h.1 with e | e | e | e <;> (have e' : k = _ := e; subst e'; rfl)
def spD (D : List DP) : Bool := D.any fun d => decide (d.k ≠ 99)
theorem spD_has {p : List UInt8} {D : List DP} (h : D.map DP.prt = parts (toks p)) (hok : ∀ d ∈ D, d.ok) : spD D = hasB p := by
  unfold hasB spD
  rw [← h, List.any_map, Bool.eq_iff_iff, List.any_eq_true, List.any_eq_true]
  constructor
  · rintro ⟨d, hd, e⟩; exact ⟨d, hd, by show d.prt.special = true; rw [dp_special (hok d hd)]; exact e⟩
  · rintro ⟨d, hd, e⟩; exact ⟨d, hd, by rw [← dp_special (hok d hd)]; exact e⟩
theorem spD_yes {D : List DP} {i : Nat} (h : i < D.length) (hk : D[i].k ≠ 99) : spD D = true := by
  unfold spD
  rw [List.any_eq_true]
  exact ⟨D[i], List.getElem_mem h, decide_eq_true hk⟩
theorem spD_no {D : List DP} (h : ∀ i (hi : i < D.length), D[i].k = 99) : spD D = false := by
  unfold spD
  rw [List.any_eq_false]
  intro d hd
  obtain ⟨i, hi, rfl⟩ := List.getElem_of_mem hd
  simp [h i hi]
set_option maxHeartbeats 1000000 in
set_option maxRecDepth 100000 in
theorem rhas_any (p : ByteArray) (hp : p.size ≤ 4294967296) (w : World) :
    Calls Try.prog 13 #[.string p] w fun e w' => e = .returned (.bool (hasB p.data.toList)) ∧ Below w.heap.size w w' := by
  go_enter Try.func13, Try.ntmps13
  go_wp2_with (go_at_call 23; refine (rparts_at p hp _).mono ?_; rintro e w1 ⟨pn, cap, D, rfl, ha, hb, hm, hok, hlen, _⟩)
  have HR := Lib.hid (spD_has hm hok)
  have HA := Lib.hid ha
  clear ha hm hok
  go_loop [4] (fun iv => ∃ i : Nat, iv = .int .i64 i ∧ i ≤ D.length ∧ ∀ j (hj : j < D.length), j < i → D[j].k = 99) (fun iv => D.length - (intOf iv).toNat)
  case atStart => exact ⟨0, rfl, Nat.zero_le _, fun j _ h => by omega⟩
  case round =>
    obtain ⟨i, rfl, hi, hno⟩ := hrel
    have HN := Lib.hid hno
    clear hno
    by_cases hlt : i < D.length
    · obtain ⟨g, rfl, hc⟩ := HA.out i hlt
      have hc0 := hc 0 (by omega)
      have e0 : D[i].cells[0]? = some (.int .u8 D[i].k) := rfl
      rw [e0, Nat.add_zero] at hc0
      clear hc e0
      have HY := Lib.hid (fun h => spD_yes hlt h)
      have HN2 := Lib.hid (fun (e : D[i].k = 99) => (show ∀ j (hj : j < D.length), j < i + 1 → D[j].k = 99 from fun j hj h => by
        by_cases e2 : j = i
        · subst e2; exact e
        · exact HN.out j hj (by omega)))
      generalize D[i].k = kk at *
      by_cases h99 : kk = 99
      · subst h99
        go_wp2
        go_round
        case rel => exact ⟨i + 1, by go_num, by omega, HN2.out rfl⟩
        case measure => simp [intOf]; omega
      · have g : (((kk : Int) != 99) : Bool) = true := by rw [bne_iff_ne]; omega
        have HH := Lib.hid (HR.out.symm.trans (HY.out h99))
        clear h99 HY HN2
        go_wp2
        go_ret
        exact ⟨ret_bool HH.out.symm, hb⟩
    · obtain rfl : i = D.length := by omega
      have HH := Lib.hid (HR.out.symm.trans (spD_no fun j hj => HN.out j hj hj))
      clear HN
      go_wp2
      go_ret
      exact ⟨ret_bool HH.out.symm, hb⟩
theorem bytes_of (q : ByteArray) (l : List UInt8) (h : q.data.toList = l) : q = ⟨l.toArray⟩ := by subst h; cases q; simp
theorem tells_any (s : ByteArray) (W : World) (hs : s.size ≤ maxLen) :
    Calls Try.prog 4 #[.string s] W fun e w' => e = .returned (.bool true) ∧ Below W.heap.size W w' := by
  unfold maxLen at hs
  have HS := Lib.hid shown_any
  by_cases h1 : 2000 < s.size
  · go_enter Try.func4, Try.ntmps4
    go_wp2_with (go_at_call 9; (with_reducible refine (HS.out _).mono ?_); rintro e w1 ⟨rfl, b1⟩)
    go_ret
    exact ⟨rfl, b1⟩
  · have C1 := Lib.hid (fun w => hasB_any s (by omega) w)
    have C2 := Lib.hid (fun w => rhas_any s (by omega) w)
    have C3 := Lib.hid (fun w => plain_any s (by omega) w)
    have C4 := Lib.hid (fun w => (show Calls Try.prog 15 #[.string s] w fun e w' => e = .returned (.string ⟨(plainB s.data.toList).toArray⟩) ∧ w = w' from by
      refine Calls.mono (rplain_any s (by omega) w) ?_
      rintro e w' ⟨⟨q, rfl, hq⟩, rfl⟩
      exact ⟨by rw [bytes_of q _ hq], rfl⟩))
    have C5 := Lib.hid (fun w => quote_any s (by omega) w)
    have C6 := Lib.hid (fun w => (show Calls Try.prog 17 #[.string s] w fun e w' => e = .returned (.string ⟨(quo s.data.toList).toArray⟩) ∧ w = w' from by
      refine Calls.mono (rquote_any s (by omega) w) ?_
      rintro e w' ⟨⟨q, rfl, hq⟩, rfl⟩
      exact ⟨by rw [bytes_of q _ hq], rfl⟩))
    generalize hasB s.data.toList = hb at *
    generalize (⟨(plainB s.data.toList).toArray⟩ : ByteArray) = pb at *
    generalize (⟨(quo s.data.toList).toArray⟩ : ByteArray) = qb at *
    go_enter Try.func4, Try.ntmps4
    go_wp2_with (first
      | (go_at_call 9; (with_reducible refine (HS.out _).mono ?_); rintro e w1 ⟨rfl, b1⟩)
      | (go_at_call 12; (with_reducible refine (C1.out _).mono ?_); rintro e w2 ⟨rfl, b2⟩)
      | (go_at_call 13; (with_reducible refine (C2.out _).mono ?_); rintro e w3 ⟨rfl, b3⟩)
      | (go_at_call 14; (with_reducible refine (C3.out _).mono ?_); rintro e w4 ⟨rfl, b4⟩)
      | (go_at_call 15; (with_reducible refine (C4.out _).mono ?_); rintro e w5 ⟨rfl, rfl⟩)
      | (go_at_call 16; (with_reducible refine (C5.out _).mono ?_); rintro e w6 ⟨rfl, b6⟩)
      | (go_at_call 17; (with_reducible refine (C6.out _).mono ?_); rintro e w7 ⟨rfl, rfl⟩))
    go_ret
    exact ⟨ret_bool (by simp), nxt b1 (nxt b2 (nxt b3 (nxt b4 b6)))⟩
end Go.Proofs.Ytacohhmhggljhaa
