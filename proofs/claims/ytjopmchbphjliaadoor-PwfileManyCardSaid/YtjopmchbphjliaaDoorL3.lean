/- Contracts of strings.Split at a colon, TrimSuffix at a line feed, Atoi. -/
import Derived.Test.YtjopmchbphjliaaDoorL2
import Derived.Test.YtjopmchbphjliaaDoorSp
namespace Go.Proofs.YtjopmchbphjliaaDoor
open Go.RowKit Go.Shelf

set_option maxHeartbeats 1000000 in
theorem split58_any (s : ByteArray) (hs : s.size ≤ 8192) (w : World) :
    Calls Tryd.prog 48 #[.string s, .string ⟨#[58]⟩] w fun e w' =>
      e = .returned (.slice (some ⟨w.heap.size, 0, none⟩) (partsB s).length (partsB s).length) ∧ w' = w.alloc (.cells ((partsB s).map Value.string).toArray 9) := by
  have hle : Lib.countB s ⟨#[58]⟩ ≤ s.size := by rw [countB_58, ← size_len]; exact List.count_le_length
  have hlen := partsB_len s
  have c := Any.strings_genSplit_core (P := Tryd.prog) (ρ := Tryd.lays146_ren) { Tryd.lays146 with } Tryd.infoString s ⟨#[58]⟩ 0 (-1) (Lib.countB s ⟨#[58]⟩ + 1) w (by omega) (by decide) (Nat.zero_le _)
    (fun x c hx => (Tryd.strings_Index_one x 58 _).mono fun e w' ⟨he, hw⟩ => ⟨he.trans (by show _ = Ending.returned (Value.int .i64 (Lib.index x.data.toList [58])); rw [Lib.index_one]), hw⟩)
    ((Tryd.strings_Count_one s 58 w).mono fun e w' ⟨he, hw⟩ => ⟨he.trans (by rw [countB_58]; rfl), hw⟩) (by decide) (by decide) (by rw [if_pos (by decide)]; omega)
  change Calls Tryd.prog 59 _ w _ at c
  rw [Nat.add_sub_cancel] at c
  change Calls Tryd.prog 59 _ w (fun e w' => e = .returned (.slice _ (partsB s).length _) ∧ w' = w.alloc (.cells (Lib.cellsOf (partsB s) _) 9)) at c
  rw [← hlen, Lib.cellsOf_full] at c
  have C := Lib.hid c
  clear c hle hlen
  go_enter Tryd.func48, Tryd.ntmps48
  go_wp2_with (go_at_call 59; refine C.out.mono ?_; rintro e w' ⟨rfl, rfl⟩)
  go_ret
  exact ⟨rfl, rfl⟩
/-- a line without the line feed at its end. -/
def trimL (l : List UInt8) : List UInt8 := Lib.trimSuffix l [10]
theorem trim_any (s t : ByteArray) (hs : s.size ≤ 8192) (ht : t.data.toList = trimL s.data.toList) (w : World) :
    Calls Tryd.prog 49 #[.string s, .string ⟨#[10]⟩] w fun e w' => e = .returned (.string t) ∧ w = w' := by
  refine (Tryd.strings_TrimSuffix s ⟨#[10]⟩ w (by omega)).mono fun e w' ⟨he, hw⟩ => ⟨he.trans ?_, hw.symm⟩
  have : t = ⟨(Lib.trimSuffix s.data.toList (⟨#[10]⟩ : ByteArray).data.toList).toArray⟩ := by
    apply ByteArray.ext; apply Array.toList_inj.1; exact ht
  rw [this]
/-- what Atoi gives: a number, or none. -/
def atoiO (l : List UInt8) : Option Int := match Lib.atoiAll l with | .ok v => some v | _ => none
theorem bytesWorld_below (w : World) (e : TypeId) (s : ByteArray) : Below w.heap.size w (Lib.bytesWorld w e s) :=
  ⟨rfl, rfl, rfl, by rw [Lib.bytesWorld_size]; omega, fun k hk => Lib.bytesWorld_at_old w e s k hk⟩
theorem atoi_ok (s : ByteArray) (hs : s.size ≤ 8192) (v : Int) (h : atoiO s.data.toList = some v) (w : World) :
    Calls Tryd.prog 50 #[.string s] w fun e w' => e = .returned (.tuple #[.int .i64 v, .nilIface]) ∧ Below w.heap.size w w' := by
  have h' : Lib.atoiAll s.data.toList = .ok v := by
    unfold atoiO at h
    rcases ha : Lib.atoiAll s.data.toList with x | _ | _
    · rw [ha] at h; simp at h; rw [h]
    · rw [ha] at h; simp at h
    · rw [ha] at h; simp at h
  refine (Tryd.strconv_Atoi_ok s (by omega) v h' w).mono fun e w' ⟨he, hw⟩ => ⟨he, ?_⟩
  rcases hw with rfl | ⟨t, rfl⟩
  · exact Below.refl _ _
  · exact bytesWorld_below _ _ _
theorem atoi_no (s : ByteArray) (hs : s.size ≤ 8192) (h : atoiO s.data.toList = none) (w : World) (henv : Env w) :
    Calls Tryd.prog 50 #[.string s] w fun e w' => ∃ n te pe, e = .returned (.tuple #[.int .i64 n, .iface te pe]) ∧ Below w.heap.size w w' := by
  obtain ⟨_, ⟨e2, h2, k2⟩, e3, h3, k3⟩ := henv
  rcases ha : Lib.atoiAll s.data.toList with x | _ | _
  · unfold atoiO at h; rw [ha] at h; simp at h
  · exact (Tryd.strconv_Atoi_syntax s (by omega) ha _ w h2 k2).mono fun e w' ⟨N, he, _, _, hb⟩ => ⟨_, _, _, he, hb⟩
  · exact (Tryd.strconv_Atoi_range s (by omega) ha _ w h3 k3).mono fun e w' ⟨N, he, _, _, hb⟩ => ⟨_, _, _, he, hb⟩
end Go.Proofs.YtjopmchbphjliaaDoor
