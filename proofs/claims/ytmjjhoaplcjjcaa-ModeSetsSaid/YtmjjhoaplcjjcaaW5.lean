/- Contracts of strings.Cut at a comma and of Change of package mode. -/
import Derived.Test.YtmjjhoaplcjjcaaW4
import Derived.Test.YtmjjhoaplcjjcaaShelf
import Derived.Lib.IndexLaws
namespace Go.Proofs.Ytmjjhoaplcjjcaa
open Go.RowKit

theorem headS_cons (c : UInt8) (r : List UInt8) : headS (c :: r) = if c = 44 then [] else c :: headS r := by
  unfold headS
  rw [List.takeWhile_cons]
  by_cases h : c = 44
  · simp [h]
  · simp [h]
theorem headS_len (l : List UInt8) : (headS l).length ≤ l.length := by
  induction l with
  | nil => exact Nat.le_refl _
  | cons c r ih =>
    rw [headS_cons]
    by_cases h : c = 44
    · simp [h]
    · simp [h, ih]
theorem headS_take (l : List UInt8) : l.take (headS l).length = headS l := by
  induction l with
  | nil => rfl
  | cons c r ih =>
    rw [headS_cons]
    by_cases h : c = 44
    · simp [h]
    · simp [h, ih]
theorem index_head (l : List UInt8) : Lib.indexByte l 44 = if (headS l).length = l.length then -1 else ((headS l).length : Int) := by
  induction l with
  | nil => rfl
  | cons c r ih =>
    rw [headS_cons, Lib.indexByte]
    by_cases h : c = 44
    · subst h; rfl
    · rw [if_neg (by simpa using h), ih, if_neg h]
      have := headS_len r
      by_cases hh : (headS r).length = r.length
      · simp [hh]
      · rw [if_neg hh, if_neg (by rw [beq_iff_eq]; omega), if_neg (by simp; omega)]; simp
/-- no comma. -/
theorem cut_none (s : ByteArray) (hh : (headS s.data.toList).length = s.data.toList.length) (w : World) :
    Calls Try.prog 28 #[.string s, .string ⟨#[44]⟩] w fun e w' => e = .returned (.tuple #[.string s, .string ⟨#[]⟩, .bool false]) ∧ Dr w w' := by
  have e : Lib.indexByte s.data.toList 44 = -1 := by rw [index_head, if_pos hh]
  have He := Lib.hid e
  clear e hh
  go_enter Try.func28, Try.ntmps28
  go_wp2_with (go_at_call 34; refine (Try.stringslite_Index_one s 44 _).mono ?_; rintro e w' ⟨rfl, rfl⟩; rw [He.out])
  go_ret3
  exact ⟨rfl, Dr.refl _⟩
theorem cut_some (s a r : ByteArray) (k : Nat) (hs : s.size ≤ maxLen) (hk : (headS s.data.toList).length = k) (hh : k < s.size)
    (ha : s.extract 0 k = a) (hr : s.extract (k + 1) s.size = r) (w : World) :
    Calls Try.prog 28 #[.string s, .string ⟨#[44]⟩] w fun e w' => e = .returned (.tuple #[.string a, .string r, .bool true]) ∧ Dr w w' := by
  have e : Lib.indexByte s.data.toList 44 = (k : Int) := by rw [index_head, if_neg (by simp; omega), hk]
  have He := Lib.hid e
  have Ha := Lib.hid ha
  have Hr := Lib.hid hr
  clear e hk ha hr
  unfold maxLen at hs
  go_enter Try.func28, Try.ntmps28
  go_wp2_with (go_at_call 34; refine (Try.stringslite_Index_one s 44 _).mono ?_; rintro e w' ⟨rfl, rfl⟩; rw [He.out])
  go_quiet (fail)
  go_wp2
  go_ret3
  refine ⟨ret_val ?_, nq, rfl⟩
  show Value.tuple #[.string (s.extract 0 k), .string (s.extract (k + 1) s.size), .bool true] = _
  rw [Ha.out, Hr.out]
theorem cut_no (s : ByteArray) (hh : (headS s.data.toList).length = s.data.toList.length) (w : World) :
    Calls Try.prog 25 #[.string s, .string ⟨#[44]⟩] w fun e w' => e = .returned (.tuple #[.string s, .string ⟨#[]⟩, .bool false]) ∧ Dr w w' := by
  have Hh := Lib.hid hh
  clear hh
  go_enter Try.func25, Try.ntmps25
  go_wp2_with (go_at_call 28; refine (cut_none s Hh.out _).mono ?_; rintro e w' ⟨rfl, n, rfl⟩)
  go_ret3
  exact ⟨rfl, n, rfl⟩
theorem cut_yes (s a r : ByteArray) (k : Nat) (hs : s.size ≤ maxLen) (hk : (headS s.data.toList).length = k) (hh : k < s.size)
    (ha : s.extract 0 k = a) (hr : s.extract (k + 1) s.size = r) (w : World) :
    Calls Try.prog 25 #[.string s, .string ⟨#[44]⟩] w fun e w' => e = .returned (.tuple #[.string a, .string r, .bool true]) ∧ Dr w w' := by
  have Hk := Lib.hid hk
  have Ha := Lib.hid ha
  have Hr := Lib.hid hr
  clear hk ha hr
  go_enter Try.func25, Try.ntmps25
  go_wp2_with (go_at_call 28; refine (cut_some s a r k hs Hk.out hh Ha.out Hr.out _).mono ?_; rintro e w' ⟨rfl, n, rfl⟩)
  go_ret3
  exact ⟨rfl, n, rfl⟩

def chgRel (dir : Bool) (res : Option Int) (w : World) (sv mv more : Value) (wr : World) : Prop :=
  ∃ (t : ByteArray) (x : Int), sv = .string t ∧ mv = .int .i64 x ∧ t.size ≤ maxLen ∧ Dr w wr ∧
    ((more = .bool true ∧ ∃ f, t.size < f ∧ chgS dir f t.data.toList x = res) ∨ (more = .bool false ∧ res = some x))
def chgLen : Value → Value → Nat
  | .string t, .bool true => t.size + 1
  | _, _ => 0

theorem extract_take (s : ByteArray) (k : Nat) : (s.extract 0 k).data.toList = s.data.toList.take k := by
  rw [ByteArray.data_extract, Array.toList_extract]; simp [List.extract]
theorem chg_last (dir : Bool) (f : Nat) (l : List UInt8) (x y : Int) (hl : (headS l).length = l.length) (hc : clauseS l x dir = some y) : chgS dir (f + 1) l x = some y := by
  have e : headS l = l := by have := headS_take l; rw [hl, List.take_length] at this; exact this.symm
  rw [chgS, e, hc]
  simp
theorem chg_bad (dir : Bool) (f : Nat) (l : List UInt8) (x : Int) (hc : clauseS (headS l) x dir = none) : chgS dir (f + 1) l x = none := by
  rw [chgS, hc]
theorem chg_next (dir : Bool) (f : Nat) (l : List UInt8) (x y : Int) (hl : ¬ (headS l).length = l.length) (hc : clauseS (headS l) x dir = some y) :
    chgS dir (f + 1) l x = chgS dir f (l.drop ((headS l).length + 1)) y := by
  rw [chgS, hc]
  simp [hl]

set_option maxHeartbeats 1600000 in
theorem change_any (s : ByteArray) (m : Int) (dir : Bool) (hs : s.size ≤ maxLen) (w : World) :
    Calls Try.prog 20 #[.string s, .int .i64 m, .bool dir] w fun e w' => e = .returned (optV (changeS s.data.toList m dir)) ∧ Dr w w' := by
  cases hr : rightB m
  · have Hr := Lib.hid (show changeS s.data.toList m dir = none by unfold changeS; rw [hr]; rfl)
    go_enter Try.func20, Try.ntmps20
    go_wp2_with (go_at_call 12; refine (right_any _ _).mono ?_; rintro e w' ⟨rfl, rfl⟩)
    go_ret2
    exact ⟨ret_val (by rw [Hr.out]; rfl), Dr.refl _⟩
  cases ho : octS s.data.toList with
  | some v =>
    have Hr := Lib.hid (show changeS s.data.toList m dir = some (v : Int) by unfold changeS; rw [hr, ho]; rfl)
    have Ho := Lib.hid (show octV (octS s.data.toList) = .tuple #[.int .i64 (v : Int), .bool true] by rw [ho]; rfl)
    clear ho
    go_enter Try.func20, Try.ntmps20
    go_wp2_with (first | (go_at_call 12; refine (right_any _ _).mono ?_; rintro e w' ⟨rfl, rfl⟩) | (go_at_call 16; refine (octal_any s hs _).mono ?_; rintro e w' ⟨rfl, rfl⟩; rw [Ho.out]))
    go_ret2
    exact ⟨ret_val (by rw [Hr.out]; rfl), Dr.refl _⟩
  | none =>
    have Hr := Lib.hid (show changeS s.data.toList m dir = chgS dir (s.data.toList.length + 1) s.data.toList m by unfold changeS; rw [hr, ho]; rfl)
    have Ho := Lib.hid (show octV (octS s.data.toList) = .tuple #[.int .i64 0, .bool false] by rw [ho]; rfl)
    clear ho
    go_enter Try.func20, Try.ntmps20
    go_wp2_with (first | (go_at_call 12; refine (right_any _ _).mono ?_; rintro e w' ⟨rfl, rfl⟩) | (go_at_call 16; refine (octal_any s hs _).mono ?_; rintro e w' ⟨rfl, rfl⟩; rw [Ho.out]))
    clear hr Ho
    go_loopw [0, 1, 10, 11, 12] (fun sv mv more _ _ wr => chgRel dir (changeS s.data.toList m dir) w sv mv more wr) (fun sv _ more _ _ _ => chgLen sv more)
    case atStart => exact ⟨s, m, rfl, rfl, hs, Dr.refl _, Or.inl ⟨rfl, s.data.toList.length + 1, by simp, Hr.out.symm⟩⟩
    case round =>
      clear Hr
      obtain ⟨t, x, rfl, rfl, htm, ⟨nw, rfl⟩, hc⟩ := hrel
      rcases hc with ⟨rfl, f, hf, hres⟩ | ⟨rfl, hres⟩
      · have Hres := Lib.hid hres; clear hres
        obtain ⟨f, rfl⟩ : ∃ g, f = g + 1 := ⟨f - 1, by omega⟩
        have hlen : t.data.toList.length = t.size := by simp
        by_cases hh : (headS t.data.toList).length = t.data.toList.length
        · cases hcl : clauseS t.data.toList x dir with
          | some y =>
            have Hcl := Lib.hid hcl
            have Hn := Lib.hid (chg_last dir f _ x y hh hcl)
            have Hh := Lib.hid hh
            clear hcl hh hlen
            go_wp2_with (first | (go_at_call 25; refine (cut_no t Hh.out _).mono ?_; rintro e w' ⟨rfl, n, rfl⟩) | (go_at_call 26; refine (apply_any t x dir htm _).mono ?_; rintro e w' ⟨rfl, n2, rfl⟩; rw [Hcl.out]; unfold optV))
            go_roundw
            case rel => exact ⟨⟨#[]⟩, y, rfl, rfl, Nat.zero_le _, ⟨_, rfl⟩, Or.inr ⟨rfl, by rw [← Hres.out, Hn.out]⟩⟩
            case measure => simp only [chgLen]; omega
          | none =>
            have Hcl := Lib.hid hcl
            have Hn := Lib.hid (show changeS s.data.toList m dir = none by
              rw [← Hres.out]
              have e : headS t.data.toList = t.data.toList := by have := headS_take t.data.toList; rw [hh, List.take_length] at this; exact this.symm
              exact chg_bad dir f _ x (by rw [e, hcl]))
            have Hh := Lib.hid hh
            clear hcl hh hlen
            go_wp2_with (first | (go_at_call 25; refine (cut_no t Hh.out _).mono ?_; rintro e w' ⟨rfl, n, rfl⟩) | (go_at_call 26; refine (apply_any t x dir htm _).mono ?_; rintro e w' ⟨rfl, n2, rfl⟩; rw [Hcl.out]; unfold optV))
            go_ret2
            exact ⟨ret_val (by rw [Hn.out]; rfl), _, rfl⟩
        · have hle := headS_len t.data.toList
          obtain ⟨k, hk⟩ : ∃ k, (headS t.data.toList).length = k := ⟨_, rfl⟩
          obtain ⟨a, ha⟩ : ∃ a, t.extract 0 k = a := ⟨_, rfl⟩
          obtain ⟨r, hr⟩ : ∃ r, t.extract (k + 1) t.size = r := ⟨_, rfl⟩
          have hkt : k < t.size := by omega
          have hal : a.data.toList = headS t.data.toList := by rw [← ha, extract_take, ← hk, headS_take]
          have hrl : r.data.toList = t.data.toList.drop ((headS t.data.toList).length + 1) := by rw [← hr, extract_drop, hk]
          have has : a.size ≤ maxLen := by rw [← ha]; simp; omega
          have hrs : r.size < t.size := by rw [← hr]; simp; omega
          cases hcl : clauseS a.data.toList x dir with
          | some y =>
            have Hn := Lib.hid (chg_next dir f _ x y hh (by rw [← hal, hcl]))
            have Hcl := Lib.hid hcl
            have Hk := Lib.hid hk
            have Ha := Lib.hid ha
            have Hr := Lib.hid hr
            have Hrl := Lib.hid hrl
            clear hcl hh hlen hle hk ha hr hal hrl
            go_wp2_with (first | (go_at_call 25; refine (cut_yes t a r k htm Hk.out hkt Ha.out Hr.out _).mono ?_; rintro e w' ⟨rfl, n, rfl⟩) | (go_at_call 26; refine (apply_any a x dir has _).mono ?_; rintro e w' ⟨rfl, n2, rfl⟩; rw [Hcl.out]; unfold optV))
            go_roundw
            case rel => exact ⟨r, y, rfl, rfl, by omega, ⟨_, rfl⟩, Or.inl ⟨rfl, f, by omega, by rw [← Hres.out, Hn.out, ← Hrl.out]⟩⟩
            case measure => simp only [chgLen]; omega
          | none =>
            have Hn := Lib.hid (show changeS s.data.toList m dir = none by
              rw [← Hres.out]
              exact chg_bad dir f _ x (by rw [← hal, hcl]))
            have Hcl := Lib.hid hcl
            have Hk := Lib.hid hk
            have Ha := Lib.hid ha
            have Hr := Lib.hid hr
            clear hcl hh hlen hle hk ha hr hal hrl
            go_wp2_with (first | (go_at_call 25; refine (cut_yes t a r k htm Hk.out hkt Ha.out Hr.out _).mono ?_; rintro e w' ⟨rfl, n, rfl⟩) | (go_at_call 26; refine (apply_any a x dir has _).mono ?_; rintro e w' ⟨rfl, n2, rfl⟩; rw [Hcl.out]; unfold optV))
            go_ret2
            exact ⟨ret_val (by rw [Hn.out]; rfl), _, rfl⟩
      · have Hres := Lib.hid hres; clear hres
        go_wp2
        go_ret2
        exact ⟨ret_val (by rw [Hres.out]; rfl), nw, rfl⟩
end Go.Proofs.Ytmjjhoaplcjjcaa
