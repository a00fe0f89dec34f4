/- Contracts of Name and of the document's answer, of endsAsDir. -/
import Derived.Test.YtiiomflffnmhnaaDoorW1
namespace Go.Proofs.YtiiomflffnmhnaaDoor
open Go.RowKit

theorem str_eq {s : ByteArray} {l : List UInt8} (h : s.toList = l) : s = ⟨l.toArray⟩ := by
  rw [ByteArray.toList_eq] at h; subst h; rfl
theorem index_in (l : List UInt8) : (0 : Int) ≤ Lib.indexByte l 47 ↔ l.contains 47 = true := by
  induction l with
  | nil => simp [Lib.indexByte]
  | cons c r ih =>
    rw [Lib.indexByte, List.contains_cons]
    by_cases h : c = 47
    · subst h; simp
    · rw [if_neg (by simpa using h)]
      have e : ((47 : UInt8) == c) = false := by simpa using fun x => h x.symm
      rw [e, Bool.false_or, ← ih]
      by_cases hi : Lib.indexByte r 47 = -1
      · simp [hi]
      · rw [if_neg (by simpa using hi)]
        have := index_head r
        rw [this] at hi ⊢
        split at hi
        · exact absurd rfl hi
        · rename_i hh; rw [if_neg hh]; omega
theorem size_len (s : ByteArray) : s.data.toList.length = s.size := by simp
theorem name_short {s : ByteArray} (h : s.size < 1 ∨ 14 < s.size) : nameB s.data.toList = false := by
  unfold nameB
  rw [size_len]
  rcases h with h | h
  · rw [decide_eq_false (by omega : ¬ 1 ≤ s.size)]; rfl
  · rw [decide_eq_false (by omega : ¬ s.size ≤ 14), Bool.and_false]; rfl
theorem name_of {s : ByteArray} (h1 : ¬ s.size < 1) (h14 : ¬ 14 < s.size) (ha : (s.toList == [46]) = false) (hb : (s.toList == [46, 46]) = false) :
    nameB s.data.toList = (!anyBad s.data.toList && !s.data.toList.contains 47) := by
  unfold nameB
  rw [size_len, decide_eq_true (by omega : 1 ≤ s.size), decide_eq_true (by omega : s.size ≤ 14)]
  rw [ByteArray.toList_eq] at ha hb
  rw [bne, bne, ha, hb]; rfl
set_option maxHeartbeats 800000 in
theorem name_any (s : ByteArray) (w : World) :
    Calls Tryd.prog 16 #[.string s] w fun e w' => e = .returned (.bool (nameB s.data.toList)) ∧ w = w' := by
  by_cases h1 : s.size < 1
  · have Hr := Lib.hid (name_short (Or.inl h1))
    go_enter Tryd.func16, Tryd.ntmps16
    go_wp2
    go_ret
    exact ⟨ret_bool Hr.out.symm, rfl⟩
  by_cases h14 : 14 < s.size
  · have Hr := Lib.hid (name_short (Or.inr h14))
    go_enter Tryd.func16, Tryd.ntmps16
    go_wp2
    go_ret
    exact ⟨ret_bool Hr.out.symm, rfl⟩
  cases ha : (s.toList == [46])
  · cases hb : (s.toList == [46, 46])
    · have Hr := Lib.hid (name_of h1 h14 ha hb)
      cases hB : anyBad s.data.toList
      · have hm : s.size ≤ maxLen := by unfold maxLen; omega
        have HB := Lib.hid hB
        clear hB
        by_cases hi : (0 : Int) ≤ Lib.indexByte s.data.toList 47
        · have Hi := Lib.hid ((index_in _).1 hi)
          go_enter Tryd.func16, Tryd.ntmps16
          go_wp2_with (first | (go_at_call 22; refine (bad_any s hm _).mono ?_; rintro e w' ⟨rfl, rfl⟩; rw [HB.out]) | (go_at_call 26; refine (Tryd.strings_IndexByte s 47 _).mono ?_; rintro e w' ⟨rfl, rfl⟩; rw [show (47 : Int).toNat.toUInt8 = 47 from rfl]))
          go_ret
          exact ⟨ret_bool (by rw [Hr.out, HB.out, Hi.out]; exact decide_eq_false (by omega)), rfl⟩
        · have Hi := Lib.hid (show s.data.toList.contains 47 = false by
            cases hc : s.data.toList.contains 47
            · rfl
            · exact absurd ((index_in _).2 hc) hi)
          go_enter Tryd.func16, Tryd.ntmps16
          go_wp2_with (first | (go_at_call 22; refine (bad_any s hm _).mono ?_; rintro e w' ⟨rfl, rfl⟩; rw [HB.out]) | (go_at_call 26; refine (Tryd.strings_IndexByte s 47 _).mono ?_; rintro e w' ⟨rfl, rfl⟩; rw [show (47 : Int).toNat.toUInt8 = 47 from rfl]))
          go_ret
          exact ⟨ret_bool (by rw [Hr.out, HB.out, Hi.out]; rfl), rfl⟩
      · have hm : s.size ≤ maxLen := by unfold maxLen; omega
        have HB := Lib.hid hB
        clear hB
        go_enter Tryd.func16, Tryd.ntmps16
        go_wp2_with (go_at_call 22; refine (bad_any s hm _).mono ?_; rintro e w' ⟨rfl, rfl⟩; rw [HB.out])
        go_ret
        exact ⟨ret_bool (by rw [Hr.out, HB.out]; rfl), rfl⟩
    · obtain rfl := str_eq (eq_of_beq hb)
      have Hr := Lib.hid (show nameB (⟨#[46, 46]⟩ : ByteArray).data.toList = false by decide)
      clear ha hb h1 h14
      go_enter Tryd.func16, Tryd.ntmps16
      go_wp2
      go_ret
      exact ⟨ret_bool Hr.out.symm, rfl⟩
  · obtain rfl := str_eq (eq_of_beq ha)
    have Hr := Lib.hid (show nameB (⟨#[46]⟩ : ByteArray).data.toList = false by decide)
    clear ha h1 h14
    go_enter Tryd.func16, Tryd.ntmps16
    go_wp2
    go_ret
    exact ⟨ret_bool Hr.out.symm, rfl⟩

def badN (c : UInt8) : Bool := badC c || c == 47
theorem badN_any (l : List UInt8) : (l.any badN) = !(!anyBad l && !l.contains 47) := by
  unfold anyBad
  induction l with
  | nil => rfl
  | cons c r ih =>
    rw [List.any_cons, ih, List.any_cons, List.contains_cons, badN]
    have : (c == 47) = ((47 : UInt8) == c) := by rw [Bool.eq_iff_iff, beq_iff_eq, beq_iff_eq]; exact ⟨fun h => h.symm, fun h => h.symm⟩
    rw [this]
    cases badC c <;> cases ((47 : UInt8) == c) <;> cases r.any badC <;> cases r.contains 47 <;> rfl
def bnRel (s : ByteArray) (i : Value) : Prop := ∃ k : Nat, k ≤ s.size ∧ i = .int .i64 k ∧ (s.data.toList.drop k).any badN = s.data.toList.any badN
set_option maxHeartbeats 800000 in
theorem refName_any (s : ByteArray) (w : World) :
    Calls Tryd.prog 17 #[.string s] w fun e w' => e = .returned (.bool (nameB s.data.toList)) ∧ w = w' := by
  by_cases h1 : s.size < 1
  · have Hr := Lib.hid (name_short (Or.inl h1))
    go_enter Tryd.func17, Tryd.ntmps17
    go_wp2
    go_ret
    exact ⟨ret_bool Hr.out.symm, rfl⟩
  by_cases h14 : 14 < s.size
  · have Hr := Lib.hid (name_short (Or.inr h14))
    go_enter Tryd.func17, Tryd.ntmps17
    go_wp2
    go_ret
    exact ⟨ret_bool Hr.out.symm, rfl⟩
  cases ha : (s.toList == [46])
  · cases hb : (s.toList == [46, 46])
    · have Hr := Lib.hid (show nameB s.data.toList = !(s.data.toList.any badN) by rw [name_of h1 h14 ha hb, badN_any, Bool.not_not])
      go_enter Tryd.func17, Tryd.ntmps17
      go_wp2
      go_loop [3] (fun i => bnRel s i) (fun i => s.size - (intOf i).toNat)
      case atStart => exact ⟨0, Nat.zero_le _, rfl, rfl⟩
      case round =>
        clear ha hb
        obtain ⟨k, hk, rfl, hn⟩ := hrel
        have Hn := Lib.hid hn; clear hn
        by_cases hlt : k < s.size
        · cases hbad : badN s[k]
          · have Hs := Lib.hid (show (s.data.toList.drop (k + 1)).any badN = s.data.toList.any badN by rw [← Hn.out, drop_eq s k hlt, List.any_cons, hbad, Bool.false_or])
            unfold badN badC at hbad; simp at hbad
            have h32 : ¬ (s[k].toNat : Int) < 32 := by omega
            have h127 : (((s[k].toNat : Int) == 127) : Bool) = false := by rw [beq_eq_false_iff_ne]; omega
            have h47 : (((s[k].toNat : Int) == 47) : Bool) = false := u8_false _ 47 hbad.2
            clear hbad
            go_wp2
            go_round
            case rel => exact ⟨k + 1, by omega, by go_num, Hs.out⟩
            case measure => simp [intOf]; omega
          · have Hs := Lib.hid (show false = nameB s.data.toList by rw [Hr.out, ← Hn.out, drop_eq s k hlt, List.any_cons, hbad]; rfl)
            unfold badN badC at hbad; simp at hbad
            by_cases h32 : (s[k].toNat : Int) < 32
            · clear hbad
              go_wp2
              go_ret
              exact ⟨ret_bool Hs.out, rfl⟩
            by_cases h127 : (((s[k].toNat : Int) == 127) : Bool) = true
            · clear hbad
              go_wp2
              go_ret
              exact ⟨ret_bool Hs.out, rfl⟩
            have h127 : (((s[k].toNat : Int) == 127) : Bool) = false := by simpa using h127
            have h47 : (((s[k].toNat : Int) == 47) : Bool) = true := u8_true _ 47 (by
              rcases hbad with (h | h) | h
              · omega
              · rw [beq_eq_false_iff_ne] at h127; omega
              · exact h)
            clear hbad
            go_wp2
            go_ret
            exact ⟨ret_bool Hs.out, rfl⟩
        · have Hs := Lib.hid (show true = nameB s.data.toList by rw [Hr.out, ← Hn.out, List.drop_of_length_le (by simp; omega)]; rfl)
          go_wp2
          go_ret
          exact ⟨ret_bool Hs.out, rfl⟩
    · obtain rfl := str_eq (eq_of_beq hb)
      have Hr := Lib.hid (show nameB (⟨#[46, 46]⟩ : ByteArray).data.toList = false by decide)
      clear ha hb h1 h14
      go_enter Tryd.func17, Tryd.ntmps17
      go_wp2
      go_ret
      exact ⟨ret_bool Hr.out.symm, rfl⟩
  · obtain rfl := str_eq (eq_of_beq ha)
    have Hr := Lib.hid (show nameB (⟨#[46]⟩ : ByteArray).data.toList = false by decide)
    clear ha h1 h14
    go_enter Tryd.func17, Tryd.ntmps17
    go_wp2
    go_ret
    exact ⟨ret_bool Hr.out.symm, rfl⟩
end Go.Proofs.YtiiomflffnmhnaaDoor
