/- A user's line: contracts of strconv.Itoa, lineOf. -/
import Derived.Test.YtjopmchbphjliaaGreatDoorR3
import Derived.Lib.AppendIntMem
import Derived.Lib.LaidTab
namespace Go.Proofs.YtjopmchbphjliaaGreatDoor
open Go.RowKit Go.Shelf

/-- what stands in the package-level variables that are read. -/
def Env (W : World) : Prop := Lib.TabIs Tryz.prog W "internal/strconv.uint64pow10" .u64 Lib.pow10Tab ∧
  (∃ ev, W.cell? ⟨1, 0, none⟩ = some ev ∧ (ev = .nilIface ∨ ∃ te pe, ev = .iface te pe)) ∧ (∃ ev, W.cell? ⟨2, 0, none⟩ = some ev ∧ (ev = .nilIface ∨ ∃ te pe, ev = .iface te pe))
theorem Env.below {W W' : World} (h : Env W) (hb : Below W.heap.size W W') : Env W' := by
  obtain ⟨h1, ⟨e2, h2, k2⟩, e3, h3, k3⟩ := h
  exact ⟨Lib.tabBelow_of_tabIs h1 W' hb, ⟨e2, (hb.cell (p := ⟨_, 0, none⟩) (cell_lt h2)).trans h2, k2⟩, e3, (hb.cell (p := ⟨_, 0, none⟩) (cell_lt h3)).trans h3, k3⟩
theorem grow_below (w : World) (n : Nat) (os : Array Obj) : Below w.heap.size w (Sort.grow (w.drewN n) os) :=
  ⟨rfl, rfl, rfl, by show w.heap.size ≤ (w.heap ++ os).size; rw [Array.size_append]; omega, fun k hk => by show (w.heap ++ os)[k]? = _; rw [Array.getElem?_append_left hk]⟩
theorem itoa_any (n : Int) (h0 : -9223372036854775808 ≤ n) (h1 : n ≤ 9223372036854775807) (w : World) (henv : Env w) :
    Calls Tryz.prog 48 #[.int .i64 n] w fun e w' => e = .returned (.string ⟨(Lib.itoa n).toArray⟩) ∧ Below w.heap.size w w' :=
  (Tryz.strconv_Itoa n h0 h1 w henv.1).mono fun e w' ⟨he, k, os, hw⟩ => ⟨he, by rw [hw]; exact grow_below w k os⟩
/-- a user's fields, and its line. -/
def fieldsS (u : Usr) : List (List UInt8) := [u.name.data.toList, u.pass.data.toList, Lib.itoa u.id, Lib.itoa u.grp, u.home.data.toList, u.shell.data.toList]
def lineS (u : Usr) : List UInt8 := Lib.join (fieldsS u) [58] ++ [10]
theorem right_parts {u : Usr} (h : rightU u = true) : nameU u.name.data.toList = true ∧ Mx.rightS u.pass.data.toList = true ∧ idB u.id = true ∧ idB u.grp = true ∧ placeB u.home.data.toList = true ∧ placeB u.shell.data.toList = true := by
  unfold rightU at h
  simpa [Bool.and_eq_true] using h
theorem id_range {n : Int} (h : idB n = true) : 0 ≤ n ∧ n ≤ 65535 := by
  unfold idB at h; simpa using h
theorem itoa_len {n : Int} (h : idB n = true) : (Lib.itoa n).length ≤ 5 := by
  obtain ⟨h0, h1⟩ := id_range h
  unfold Lib.itoa
  rw [if_neg (by omega), Lib.decDigits_length]
  by_cases a : n.toNat < 10
  · rw [Lib.nDigits_small a]; decide
  · by_cases b : n.toNat < 10 ^ 2
    · rw [Lib.nDigits_unique 1 _ (by omega) (by omega)]; decide
    · by_cases c : n.toNat < 10 ^ 3
      · rw [Lib.nDigits_unique 2 _ (by omega) (by omega)]; decide
      · by_cases d : n.toNat < 10 ^ 4
        · rw [Lib.nDigits_unique 3 _ (by omega) (by omega)]; decide
        · rw [Lib.nDigits_unique 4 _ (by omega) (by omega)]; decide
theorem place_len {l : List UInt8} (h : placeB l = true) : l.length ≤ 128 := by
  unfold placeB at h
  rw [Bool.and_eq_true, decide_eq_true_iff] at h
  have h1 := h.1
  unfold splE at h1
  by_cases h0 : l = []
  · rw [if_pos h0] at h1; cases h1
  · rw [if_neg h0] at h1
    by_cases h2 : 128 < l.length
    · rw [if_pos h2] at h1; cases h1
    · omega
theorem pass_len {l : List UInt8} (h : Mx.rightS l = true) : l.length ≤ 21 := by
  unfold Mx.rightS at h
  rw [Bool.or_eq_true, Bool.or_eq_true, beq_iff_eq, beq_iff_eq] at h
  rcases h with h | h | h
  · rw [h]; decide
  · rw [h]; decide
  · rw [((Mx.form_iff l).1 h).1]; decide
theorem name_len {l : List UInt8} (h : nameU l = true) : 1 ≤ l.length ∧ l.length ≤ 8 := by
  unfold nameU at h
  rw [Bool.and_eq_true, Bool.and_eq_true, decide_eq_true_iff, decide_eq_true_iff] at h
  exact ⟨h.1, h.2.1⟩
theorem join6 (a b c d e f s : List UInt8) : Lib.join [a, b, c, d, e, f] s = a ++ (s ++ (b ++ (s ++ (c ++ (s ++ (d ++ (s ++ (e ++ (s ++ f))))))))) := by
  rw [Lib.join_cons]; simp [Lib.joinTail, List.append_assoc]
theorem line_len {u : Usr} (h : rightU u = true) : (lineS u).length ≤ 301 := by
  obtain ⟨h1, h2, h3, h4, h5, h6⟩ := right_parts h
  have a := name_len h1
  have b := pass_len h2
  have c := itoa_len h3
  have d := itoa_len h4
  have e := place_len h5
  have f := place_len h6
  unfold lineS fieldsS
  rw [join6]
  simp only [List.length_append, List.length_cons, List.length_nil]
  omega
end Go.Proofs.YtjopmchbphjliaaGreatDoor
