/- Contract of the document's Parts. -/
import Derived.Test.YtjopmchbphjliaaGreatDoorRA
import Derived.Deep.RegionHeld3
import Derived.Deep.AppendLies
import Derived.Deep.DrawnRows
import Derived.Laws.AppendOwn
import Derived.WalkSmall
namespace Go.Proofs.YtjopmchbphjliaaGreatDoor
open Go.RowKit Go.Shelf
set_option linter.unusedVariables false

def paRel (s : ByteArray) (B : Nat) (w : World) (ov fv iv : Value) (wr : World) : Prop :=
  ∃ (f i : Nat) (out : List (List UInt8)), f ≤ i ∧ i ≤ s.size + 1 ∧ fv = .int .i64 f ∧ iv = .int .i64 i ∧ out.length ≤ i ∧ partInv s.data.toList f i out ∧ wr.ownsRow B 9 1 ov out.length (out.map strV) ∧ Below B w wr
theorem get_at (s : ByteArray) (i : Nat) (h : i < s.size) : s.data.toList[i]? = some s[i] := by
  rw [List.getElem?_eq_getElem (by simpa using h)]; simp; rfl
theorem ext_str (s : ByteArray) (f i : Nat) (h : i ≤ s.size) : (⟨((s.data.toList.take i).drop f).toArray⟩ : ByteArray) = s.extract f i := by
  rw [Lib.extract_eq, List.drop_take]
theorem pa_step {s : ByteArray} {B f i : Nat} {w wr w1 w3 : World} {out : List (List UInt8)} {v v' : Value} {y : Value} (hB : w.heap.size = B) (hf : f < i) (hi : i ≤ s.size) (hol : out.length ≤ i) (hp : partInv s.data.toList (i + 1) (i + 1) (out ++ [(s.data.toList.take i).drop f]))
    (hy : y = .string (s.extract f i)) (hown : wr.ownsRow B 9 1 v out.length (out.map strV)) (hbel : Below B w wr) (h1 : Below wr.heap.size wr w1)
    (hown' : w3.ownsRow B 9 1 v' (out.length + 1) (out.map strV ++ [y])) (hgrow : w1.grownBy w3 v.ownBlock) : paRel s B w v' (.int .i64 ((i : Int) + 1)) (.int .i64 ((i : Int) + 1)) w3 := by
  subst hB
  refine ⟨i + 1, i + 1, _, Nat.le_refl _, by omega, by go_num, by go_num, by simp; omega, hp, ?_, ?_⟩
  · rw [List.length_append, List.map_append]
    have : [(s.data.toList.take i).drop f].map strV = [y] := by rw [hy, ← ext_str s f i hi]; rfl
    rw [this]; exact hown'
  · have hb1 : Below w.heap.size w w1 := hbel.trans (h1.mono hbel.size)
    exact hb1.grown hgrow hb1.size (fun k e => (hown.lt k e).1)
set_option maxRecDepth 100000 in
set_option maxHeartbeats 3000000 in
theorem parts_any (s : ByteArray) (hs : s.size ≤ 1048576) (w : World) :
    Calls Tryz.prog 77 #[.string s] w fun e w' => ∃ v, e = .returned v ∧ (Hid (w'.ownsRow w.heap.size 9 1 v (nonE s.data.toList).length ((nonE s.data.toList).map strV)) ∧ Below w.heap.size w w') := by
  obtain ⟨i0, hi, hz0, hz1, hz2⟩ := info_parts Tryz.infoString
  obtain ⟨B, hB⟩ : ∃ B, w.heap.size = B := ⟨_, rfl⟩
  have HB := Lib.hid hB
  clear hB
  go_enter Tryz.func77, Tryz.ntmps77
  go_wp2
  go_loopw [3, 4, 5] (fun ov fv iv wr => paRel s B w ov fv iv wr) (fun _ _ iv _ => s.size + 1 - (intOf iv).toNat)
  case atStart => exact ⟨0, 0, [], Nat.le_refl _, Nat.zero_le _, rfl, rfl, Nat.le_refl _, part_start _, World.ownsRow_nil _ _ _ _, Below.refl _ _⟩
  case round =>
    obtain ⟨f, i, out, hf, hi1, rfl, rfl, hol, hp, hown, hbel⟩ := hrel
    have hsz := hbel.size
    rw [HB.out] at hsz
    by_cases hlt : i < s.size
    · by_cases hc : s[i] = 47
      · have h47 : (((s[i].toNat : Int) != 47) : Bool) = false := u8_nn _ 47 hc
        have hsep := part_sep (by rw [get_at s i hlt, hc]) hp
        by_cases hfi : f < i
        · have Hs := Lib.hid (hsep.1 hfi)
          clear hsep hp hc
          go_wp2_with (at_builtin; refine wpList_append_own _ rfl _ _ 61 rfl B 9 i0 (.string ByteArray.empty) 1 16 Tryz.underlying61 hi hz0 hz1 hz2 rfl (by decide) _ _ _ rfl (hown.alloc _) ⟨wr.heap.size, 0, none⟩ 1 1 [.string (s.extract f i)] rfl rfl (News.one wr _) (by simp [Value.oneCell']) (by unfold maxLen; omega) (by omega) (by simp; omega) ?_; intro v' w3 hown' hgrow _; have R := pa_step HB.out hfi (by omega) hol Hs.out rfl hown hbel ((Below.refl _ _).alloc (Nat.le_refl _) _) hown' hgrow; clear hown' hgrow)
          go_roundw
          case rel => exact R
          case measure => simp [intOf]; omega
        · have Hs := Lib.hid (hsep.2 hfi)
          clear hsep hp hc
          go_wp2
          go_roundw
          case rel => exact ⟨i + 1, i + 1, out, Nat.le_refl _, by omega, by go_num, by go_num, by omega, Hs.out, hown, hbel⟩
          case measure => simp [intOf]; omega
      · have h47 : (((s[i].toNat : Int) != 47) : Bool) = true := u8_ne _ 47 hc
        have Hs := Lib.hid (part_next hf (get_at s i hlt) hc hp)
        clear hp hc
        go_wp2
        go_roundw
        case rel => exact ⟨f, i + 1, out, by omega, by omega, rfl, by go_num, by omega, Hs.out, hown, hbel⟩
        case measure => simp [intOf]; omega
    · by_cases hle : i ≤ s.size
      · have his : i = s.size := by omega
        subst his
        have hend := part_end (by rw [size_len]; exact hp)
        rw [size_len] at hend
        by_cases hfi : f < s.size
        · have Hs := Lib.hid (part_last (f := s.size + 1) (i := s.size + 1) (by rw [size_len]; omega) (hend.1 hfi))
          clear hend hp
          go_wp2_with (at_builtin; refine wpList_append_own _ rfl _ _ 61 rfl B 9 i0 (.string ByteArray.empty) 1 16 Tryz.underlying61 hi hz0 hz1 hz2 rfl (by decide) _ _ _ rfl (hown.alloc _) ⟨wr.heap.size, 0, none⟩ 1 1 [.string (s.extract f s.size)] rfl rfl (News.one wr _) (by simp [Value.oneCell']) (by unfold maxLen; omega) (by omega) (by simp; omega) ?_; intro v' w3 hown' hgrow _; have R := pa_step HB.out hfi (Nat.le_refl _) hol Hs.out rfl hown hbel ((Below.refl _ _).alloc (Nat.le_refl _) _) hown' hgrow; clear hown' hgrow)
          go_roundw
          case rel => exact R
          case measure => simp [intOf]
        · have Hs := Lib.hid (part_last (f := s.size + 1) (i := s.size + 1) (by rw [size_len]; omega) (hend.2 hfi))
          clear hend hp
          go_wp2
          go_roundw
          case rel => exact ⟨s.size + 1, s.size + 1, out, Nat.le_refl _, Nat.le_refl _, by go_num, by go_num, by omega, Hs.out, hown, hbel⟩
          case measure => simp [intOf]
      · have Hs := Lib.hid (part_done (by rw [size_len]; omega) hp)
        clear hp
        go_wp2
        go_ret
        exact ⟨_, rfl, by rw [Hs.out, HB.out]; exact Lib.hid hown, by rw [HB.out]; exact hbel⟩
end Go.Proofs.YtjopmchbphjliaaGreatDoor
