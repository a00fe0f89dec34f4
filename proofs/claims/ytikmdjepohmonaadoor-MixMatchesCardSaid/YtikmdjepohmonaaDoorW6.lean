/- Contracts of strconv.ParseUint, Right, Matches and the document's answers. -/
import Derived.Test.YtikmdjepohmonaaDoorW5
import Derived.Lib.Strings
namespace Go.Proofs.YtikmdjepohmonaaDoor
open Go.RowKit

theorem bytesWorld_below (w : World) (e : TypeId) (s : ByteArray) : Below w.heap.size w (Lib.bytesWorld w e s) :=
  ⟨rfl, rfl, rfl, by rw [Lib.bytesWorld_size]; omega, fun k hk => Lib.bytesWorld_at_old w e s k hk⟩
theorem parse_any (t : ByteArray) (h4 : t.size = 4) (hd : ∀ c ∈ t.data.toList, digB c = true) (w : World) :
    Calls Tryd.prog 22 #[.string t, .int .i64 16, .int .i64 16] w fun e w' => e = .returned (.tuple #[.int .u64 (valS t.data.toList : Nat), .nilIface]) ∧ Below w.heap.size w w' := by
  have Hb := Lib.hid (bytesWorld_below w 5 t)
  have Hd := Lib.hid hd
  clear hd
  go_enter Tryd.func22, Tryd.ntmps22
  go_wp2_with (go_at_call 25; refine (parseIn_any t h4 Hd.out _).mono ?_; rintro e w' ⟨rfl, hw⟩; have Hw := Lib.hid hw; clear hw)
  go_ret2
  exact ⟨rfl, by rw [Hw.out]; exact Hb.out⟩
theorem empty_list (s : ByteArray) (h : s.data.toList = []) : s = ⟨#[]⟩ := by
  apply ByteArray.ext; apply Array.toList_inj.1; rw [h]
theorem list_eq (s t : ByteArray) (h : s.data.toList = t.data.toList) : s = t := by
  apply ByteArray.ext; exact Array.toList_inj.1 h
theorem tl (s : ByteArray) : s.toList = s.data.toList := Lib.toList_data s
theorem right_e {s : ByteArray} (h : s.toList = []) : rightS s.data.toList = true := by rw [← tl, h]; rfl
theorem right_s {s : ByteArray} (h : s.toList = [42]) : rightS s.data.toList = true := by rw [← tl, h]; rfl
theorem right_f {s : ByteArray} (h : ¬ s.toList = []) (h2 : ¬ s.toList = [42]) : rightS s.data.toList = formB s.data.toList := by
  rw [tl] at h h2
  unfold rightS
  rw [beq_eq_false_iff_ne.2 h, beq_eq_false_iff_ne.2 h2]; rfl
theorem isE_t {s : ByteArray} (h : s.toList = []) : s.toList.isEmpty = true := by rw [h]; rfl
theorem isE_f {s : ByteArray} (h : ¬ s.toList = []) : s.toList.isEmpty = false := by
  cases hs : s.toList with
  | nil => exact absurd hs h
  | cons a r => rfl
theorem isS_t {s : ByteArray} (h : s.toList = [42]) : (s.toList == [42]) = true := by rw [h]; rfl
theorem isS_f {s : ByteArray} (h : ¬ s.toList = [42]) : (s.toList == [42]) = false := beq_eq_false_iff_ne.2 h
theorem right_any (s : ByteArray) (w : World) :
    Calls Tryd.prog 14 #[.string s] w fun e w' => e = .returned (.bool (rightS s.data.toList)) ∧ w = w' := by
  by_cases h : s.toList = []
  · have Hr := Lib.hid (right_e h)
    have hE := isE_t h
    go_enter Tryd.func14, Tryd.ntmps14
    go_wp2
    go_ret
    exact ⟨ret_bool Hr.out.symm, rfl⟩
  · by_cases h2 : s.toList = [42]
    · have Hr := Lib.hid (right_s h2)
      have hE := isE_f h
      have hS := isS_t h2
      clear h h2
      go_enter Tryd.func14, Tryd.ntmps14
      go_wp2
      go_ret
      exact ⟨ret_bool (by rw [Hr.out]), rfl⟩
    · have Hr := Lib.hid (right_f h h2)
      have hE := isE_f h
      have hS := isS_f h2
      clear h h2
      go_enter Tryd.func14, Tryd.ntmps14
      go_wp2_with (go_at_call 20; refine (form_any s _).mono ?_; rintro e w' ⟨rfl, rfl⟩)
      go_ret
      exact ⟨ret_bool (by rw [Hr.out]), rfl⟩
theorem refRight_any (s : ByteArray) (w : World) :
    Calls Tryd.prog 15 #[.string s] w fun e w' => e = .returned (.bool (rightS s.data.toList)) ∧ w = w' := by
  by_cases h : s.toList = []
  · have Hr := Lib.hid (right_e h)
    have hE := isE_t h
    go_enter Tryd.func15, Tryd.ntmps15
    go_wp2
    go_ret
    exact ⟨ret_bool Hr.out.symm, rfl⟩
  · by_cases h2 : s.toList = [42]
    · have Hr := Lib.hid (right_s h2)
      have hE := isE_f h
      have hS := isS_t h2
      clear h h2
      go_enter Tryd.func15, Tryd.ntmps15
      go_wp2
      go_ret
      exact ⟨ret_bool (by rw [Hr.out]), rfl⟩
    · have Hr := Lib.hid (right_f h h2)
      have hE := isE_f h
      have hS := isS_f h2
      clear h h2
      go_enter Tryd.func15, Tryd.ntmps15
      go_wp2_with (go_at_call 21; refine (refForm_any s _).mono ?_; rintro e w' ⟨rfl, rfl⟩)
      go_ret
      exact ⟨ret_bool (by rw [Hr.out]), rfl⟩
theorem match_e {f : ByteArray} (h : f.toList = []) (p : ByteArray) : matchS f.data.toList p.data.toList = p.toList.isEmpty := by
  rw [← tl, h, ← tl]
  unfold matchS
  rw [if_pos rfl]
  cases p.toList <;> rfl
theorem match_n {f : ByteArray} (h : ¬ f.toList = []) (h2 : formB f.data.toList = false) (p : List UInt8) : matchS f.data.toList p = false := by
  rw [tl] at h
  unfold matchS; rw [if_neg h, if_neg (by rw [h2]; exact Bool.false_ne_true)]
theorem match_y {f : ByteArray} (h2 : formB f.data.toList = true) (p : List UInt8) : matchS f.data.toList p = (fieldS (valS (f.data.toList.take 4) : Nat) p == f.data.toList) := by
  have h : ¬ f.data.toList = [] := by
    intro h; rw [h] at h2; cases h2
  unfold matchS; rw [if_neg h, if_pos h2]
theorem form_size {f : ByteArray} (h2 : formB f.data.toList = true) : f.size = 21 := by
  have := ((form_iff _).1 h2).1
  simpa using this
theorem form_head {f : ByteArray} (h2 : formB f.data.toList = true) : ∀ c ∈ f.data.toList.take 4, digB c = true := by
  intro c hc
  obtain ⟨j, hj, rfl⟩ := List.mem_iff_getElem.1 hc
  have hj4 : j < 4 := by simp at hj; omega
  have h := ((form_iff _).1 h2).2 j (by omega)
  unfold okAt at h
  rw [if_neg (by omega)] at h
  have hs : f.data.toList.length = 21 := ((form_iff _).1 h2).1
  rw [List.getD_eq_getElem?_getD, List.getElem?_eq_getElem (by omega)] at h
  rw [List.getElem_take]
  exact h
theorem form_ne {f : ByteArray} (h2 : formB f.data.toList = true) : ¬ f.toList = [] := by
  rw [tl]; intro h; rw [h] at h2; cases h2
theorem extract_take (s : ByteArray) (k : Nat) : (s.extract 0 k).data.toList = s.data.toList.take k := by
  rw [ByteArray.data_extract, Array.toList_extract]; simp [List.extract]
set_option maxHeartbeats 1600000 in
theorem matches_any (f p : ByteArray) (hp : p.size ≤ maxLen) (w : World) :
    Calls Tryd.prog 16 #[.string f, .string p] w fun e w' => e = .returned (.bool (matchS f.data.toList p.data.toList)) ∧ Below w.heap.size w w' := by
  by_cases h : f.toList = []
  · have Hr := Lib.hid (match_e h p)
    have hE := isE_t h
    clear h
    go_enter Tryd.func16, Tryd.ntmps16
    go_wp2
    go_ret
    exact ⟨ret_bool (by rw [Hr.out]), Below.refl _ _⟩
  · cases h2 : formB f.data.toList
    · have Hr := Lib.hid (match_n h h2 p.data.toList)
      have hE := isE_f h
      have H2 := Lib.hid h2
      clear h h2
      go_enter Tryd.func16, Tryd.ntmps16
      go_wp2_with (go_at_call 20; refine (form_any f _).mono ?_; rintro e w' ⟨rfl, rfl⟩; rw [H2.out])
      go_ret
      exact ⟨ret_bool (by rw [Hr.out]), Below.refl _ _⟩
    · have Hr := Lib.hid (match_y h2 p.data.toList)
      have hE := isE_f h
      have H2 := Lib.hid h2
      have hsz := form_size h2
      obtain ⟨t, ht⟩ : ∃ t, f.extract 0 4 = t := ⟨_, rfl⟩
      have Ht := Lib.hid ht
      have h4 : t.size = 4 := by rw [← ht]; simp; omega
      have hl : t.data.toList = f.data.toList.take 4 := by rw [← ht, extract_take]
      have Hd := Lib.hid (show ∀ c ∈ t.data.toList, digB c = true by rw [hl]; exact form_head h2)
      obtain ⟨v, hv⟩ : ∃ v, valS t.data.toList = v := ⟨_, rfl⟩
      have hv2 : v < 65536 := by
        have := val_lt t.data.toList Hd.out 4 (by simp; omega)
        rw [List.take_of_length_le (by simp; omega), hv] at this
        exact this
      have Hv := Lib.hid hv
      have Hv2 := Lib.hid (show valS (f.data.toList.take 4) = v by rw [← hl, hv])
      clear h h2 ht hl hv
      go_enter Tryd.func16, Tryd.ntmps16
      go_wp2_with (first | (go_at_call 20; refine (form_any f _).mono ?_; rintro e w' ⟨rfl, rfl⟩; rw [H2.out]) | (go_at_call 22; rw [Ht.out]; refine (parse_any t h4 Hd.out _).mono ?_; rintro e w1 ⟨rfl, hb1⟩; rw [Hv.out]) | (go_at_call 12; refine (field_any v p hp _).mono ?_; rintro e w2 ⟨rfl, hb2⟩))
      go_ret
      refine ⟨ret_bool ?_, hb1.trans (hb2.mono hb1.size)⟩
      rw [Hr.out, Hv2.out, tl]
      exact Bool.beq_comm
def svRel (l : List UInt8) (sv iv : Value) : Prop :=
  ∃ (k : Nat) (a : Int), sv = .int .i64 a ∧ iv = .int .i64 k ∧ k ≤ 4 ∧ Hid (a = (valS (l.take k) : Nat))
theorem digI_of (c : UInt8) (d : Nat) (h : digN c = some d) : digI c = (d : Int) := by
  unfold digI digB digV; rw [h]; rfl
set_option maxHeartbeats 1600000 in
theorem refMatches_any (f p : ByteArray) (hp : p.size ≤ maxLen) (w : World) :
    Calls Tryd.prog 17 #[.string f, .string p] w fun e w' => e = .returned (.bool (matchS f.data.toList p.data.toList)) ∧ Below w.heap.size w w' := by
  by_cases h : f.toList = []
  · have Hr := Lib.hid (match_e h p)
    have hE := isE_t h
    clear h
    go_enter Tryd.func17, Tryd.ntmps17
    go_wp2
    go_ret
    exact ⟨ret_bool (by rw [Hr.out]), Below.refl _ _⟩
  · cases h2 : formB f.data.toList
    · have Hr := Lib.hid (match_n h h2 p.data.toList)
      have hE := isE_f h
      have H2 := Lib.hid h2
      clear h h2
      go_enter Tryd.func17, Tryd.ntmps17
      go_wp2_with (go_at_call 21; refine (refForm_any f _).mono ?_; rintro e w' ⟨rfl, rfl⟩; rw [H2.out])
      go_ret
      exact ⟨ret_bool (by rw [Hr.out]), Below.refl _ _⟩
    · have Hr := Lib.hid (match_y h2 p.data.toList)
      have hE := isE_f h
      have H2 := Lib.hid h2
      have hsz := form_size h2
      have Hd := Lib.hid (form_head h2)
      have hlen : f.data.toList.length = f.size := by simp
      have Hlen := Lib.hid hlen
      clear h h2 hlen
      go_enter Tryd.func17, Tryd.ntmps17
      go_wp2_with (go_at_call 21; refine (refForm_any f _).mono ?_; rintro e w' ⟨rfl, rfl⟩; rw [H2.out])
      go_loop [6, 7] (fun sv iv => svRel f.data.toList sv iv) (fun _ iv => 4 - (intOf iv).toNat)
      case atStart => exact ⟨0, 0, rfl, rfl, by omega, rfl⟩
      case round =>
        obtain ⟨k, a, rfl, rfl, hk, hh⟩ := hrel
        have ha : 0 ≤ a ∧ a ≤ 65535 := by
          have hv := val_lt (f.data.toList.take 4) Hd.out k (by simp; have := Hlen.out; omega)
          have h3 : 16 ^ k ≤ 16 ^ 4 := Nat.pow_le_pow_right (by decide) hk
          rw [List.take_take, Nat.min_eq_left hk] at hv
          have := hh.out
          omega
        obtain ⟨a0, a1⟩ := ha
        by_cases hlt : k < 4
        · have hj : (f.data.toList.take 4)[k]'(by simp; have := Hlen.out; omega) = f[k]'(by omega) := by rw [List.getElem_take]; rfl
          have hdg : digB (f[k]'(by omega)) = true := by rw [← hj]; exact Hd.out _ (List.getElem_mem _)
          obtain ⟨d, he⟩ := Option.isSome_iff_exists.1 hdg
          have hd16 := digN_lt _ _ he
          have hst := val_step f.data.toList k (by have := Hlen.out; omega) d he
          have Hst := Lib.hid (show 16 * a + (d : Int) = ((valS (f.data.toList.take (k + 1)) : Nat) : Int) by rw [hst]; have := hh.out; omega)
          have Hdi := Lib.hid (digI_of _ d he)
          clear hj hdg he hst hh
          go_wp2_with (go_at_call 23; refine (digit_any _ _).mono ?_; rintro e w' ⟨rfl, rfl⟩; rw [Hdi.out])
          go_round
          case rel => exact ⟨k + 1, _, rfl, by go_num, hlt, Hst.out⟩
          case measure => simp [intOf]; omega
        · obtain rfl : k = 4 := by omega
          obtain ⟨v, hv⟩ : ∃ v, valS (f.data.toList.take 4) = v := ⟨_, rfl⟩
          have hav : a = (v : Int) := by rw [hh.out, hv]
          have Hv := Lib.hid hv
          clear hh hv
          subst hav
          go_wp2_with (go_at_call 13; refine (refField_any (v : Int) p hp _).mono ?_; rintro e w2 ⟨rfl, hb2⟩)
          go_ret
          refine ⟨ret_bool ?_, hb2⟩
          rw [Hr.out, Hv.out, tl]
end Go.Proofs.YtikmdjepohmonaaDoor
