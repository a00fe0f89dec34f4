/- Contracts of applyClause and Change of package mode. -/
import Derived.Test.YtmjjhoaplcjjcaaW3
namespace Go.Proofs.Ytmjjhoaplcjjcaa
open Go.RowKit

theorem split_at (s t : ByteArray) (cls : Nat) (h : splitS s.data.toList = (cls, t.data.toList)) (hs : s.size ≤ maxLen) (w : World) :
    Calls Try.prog 29 #[.string s] w fun e w' => e = .returned (.tuple #[.int .i64 cls, .string t]) ∧ Dr w w' :=
  (split_any s hs w).mono fun e w' ⟨he, hw⟩ => ⟨by rw [he, h]; rfl, hw⟩
theorem take_at (s t : ByteArray) (m : Int) (dir : Bool) (b : Nat) (h : takeF (litOf m dir) s.data.toList 0 = (b, t.data.toList)) (hs : s.size ≤ maxLen) (w : World) :
    Calls Try.prog 30 #[.string s, .int .i64 m, .bool dir] w fun e w' => e = .returned (.tuple #[.int .i64 b, .string t]) ∧ Dr w w' :=
  (take_any s m dir hs w).mono fun e w' ⟨he, hw⟩ => ⟨by rw [he, h]; rfl, hw⟩
theorem as_string (o : Nat × List UInt8) : ∃ (n : Nat) (t : ByteArray), o = (n, t.data.toList) := ⟨o.1, ⟨o.2.toArray⟩, rfl⟩
theorem Dr.trans {a b c : World} (h : Dr a b) (g : Dr b c) : Dr a c := by
  obtain ⟨n, rfl⟩ := h; obtain ⟨k, rfl⟩ := g; exact ⟨n + k, by simp [World.drewN]; try omega⟩

theorem emptyB (t : ByteArray) (h : t.size = 0) : t.toList.isEmpty = true := by
  rw [ByteArray.toList_eq, List.isEmpty_iff]; exact List.length_eq_zero_iff.1 (by simpa using h)
theorem fullB (t : ByteArray) (h : 0 < t.size) : t.toList.isEmpty = false := by
  rw [ByteArray.toList_eq, List.isEmpty_eq_false_iff]; intro e
  have := congrArg List.length e
  have e2 : t.data.toList.length = t.size := by simp
  rw [e2, List.length_nil] at this; omega
theorem data_nil (t : ByteArray) (h : t.size = 0) : t.data.toList = [] := List.length_eq_zero_iff.1 (by simpa using h)
theorem data_cons (t : ByteArray) (h : 0 < t.size) : t.data.toList = t[0] :: (t.extract 1 t.size).data.toList := by
  have e := drop_eq t 0 h
  rw [List.drop_zero] at e
  rw [e, extract_drop]

def actRel (cls : Nat) (dir : Bool) (res : Option Int) (w : World) (m a : Value) (wr : World) : Prop :=
  ∃ (t : ByteArray) (f : Nat) (x : Int), a = .string t ∧ m = .int .i64 x ∧ t.size ≤ maxLen ∧ t.size ≤ f ∧ actS cls dir f t.data.toList x = res ∧ Dr w wr
def strLen : Value → Nat
  | .string t => t.size
  | _ => 0
theorem act_end (cls : Nat) (dir : Bool) (f : Nat) (t : ByteArray) (x : Int) (h : t.size = 0) : actS cls dir f t.data.toList x = some x := by
  rw [data_nil t h]; cases f <;> rfl
/-- one action. -/
theorem act_step (cls : Nat) (dir : Bool) (f : Nat) (t r : ByteArray) (x y : Int) (b : Nat) (h : 0 < t.size)
    (ht : takeF (litOf x dir) (t.extract 1 t.size).data.toList 0 = (b, r.data.toList)) (ha : applyS cls b t[0] x = some y) :
    actS cls dir (f + 1) t.data.toList x = actS cls dir f r.data.toList y := by
  rw [data_cons t h, actS, ht]
  simp only [ha]
theorem act_wrong (cls : Nat) (dir : Bool) (f : Nat) (t r : ByteArray) (x : Int) (b : Nat) (h : 0 < t.size)
    (ht : takeF (litOf x dir) (t.extract 1 t.size).data.toList 0 = (b, r.data.toList)) (ha : applyS cls b t[0] x = none) :
    actS cls dir (f + 1) t.data.toList x = none := by
  rw [data_cons t h, actS, ht]
  simp only [ha]
theorem splitS_len (l : List UInt8) : (splitS l).2.length ≤ l.length := by
  unfold splitS
  cases l with
  | nil => simp
  | cons c r =>
    cases h : clsOf c with
    | none => simp [h]
    | some b => simpa [h] using takeF_len clsOf (c :: r) 0
theorem rest_size (t r : ByteArray) (g : UInt8 → Option Nat) (b : Nat) (h : 0 < t.size) (ht : takeF g (t.extract 1 t.size).data.toList 0 = (b, r.data.toList)) : r.size < t.size := by
  have e := takeF_len g (t.extract 1 t.size).data.toList 0
  rw [ht] at e
  have e1 : r.data.toList.length = r.size := by simp
  have e2 : (t.extract 1 t.size).data.toList.length = t.size - 1 := by simp
  simp only [e1, e2] at e
  omega

set_option maxHeartbeats 1600000 in
theorem apply_any (s : ByteArray) (m : Int) (dir : Bool) (hs : s.size ≤ maxLen) (w : World) :
    Calls Try.prog 26 #[.string s, .int .i64 m, .bool dir] w fun e w' => e = .returned (optV (clauseS s.data.toList m dir)) ∧ Dr w w' := by
  obtain ⟨cls, t, hsp⟩ := as_string (splitS s.data.toList)
  have hts : t.size ≤ s.size := by
    have e := splitS_len s.data.toList
    rw [hsp] at e
    simpa using e
  by_cases h0 : t.size = 0
  · have e1 := emptyB t h0
    have Hr := Lib.hid (show clauseS s.data.toList m dir = none by unfold clauseS; rw [hsp, if_pos (data_nil t h0)])
    have Hsp := Lib.hid hsp
    clear hsp h0
    go_enter Try.func26, Try.ntmps26
    go_wp2_with (go_at_call 29; refine (split_at s t cls Hsp.out hs _).mono ?_; rintro e w' ⟨rfl, n, rfl⟩)
    go_ret2
    exact ⟨ret_val (by rw [Hr.out]; rfl), n, rfl⟩
  · have hp : 0 < t.size := by omega
    have e1 := fullB t hp
    have Hr := Lib.hid (show clauseS s.data.toList m dir = actS cls dir t.size t.data.toList m by
      unfold clauseS; rw [hsp, if_neg (by rw [data_cons t hp]; simp)]; simp)
    have Hsp := Lib.hid hsp
    clear hsp h0
    go_enter Try.func26, Try.ntmps26
    go_wp2_with (go_at_call 29; refine (split_at s t cls Hsp.out hs _).mono ?_; rintro e w' ⟨rfl, n, rfl⟩)
    clear e1 hp
    go_loopw [1, 9, 10, 11] (fun mv a _ _ wr => actRel cls dir (clauseS s.data.toList m dir) w mv a wr) (fun _ a _ _ _ => strLen a)
    case atStart => exact ⟨t, t.size, m, rfl, rfl, by omega, Nat.le_refl _, Hr.out.symm, n, rfl⟩
    case round =>
      clear Hr Hsp hts
      obtain ⟨t, f, x, rfl, rfl, htm, hf, hres, nw, rfl⟩ := hrel
      have Hres := Lib.hid hres; clear hres
      by_cases h0 : t.size = 0
      · have e1 := emptyB t h0
        have Hr := Lib.hid (show clauseS s.data.toList m dir = some x by rw [← Hres.out]; exact act_end cls dir f t x h0)
        clear h0
        go_wp2
        go_ret2
        exact ⟨ret_val (by rw [Hr.out]; rfl), nw, rfl⟩
      · have hp : 0 < t.size := by omega
        have e1 := fullB t hp
        obtain ⟨f, rfl⟩ : ∃ g, f = g + 1 := ⟨f - 1, by omega⟩
        obtain ⟨b, r, ht⟩ := as_string (takeF (litOf x dir) (t.extract 1 t.size).data.toList 0)
        have hrs := rest_size t r _ b hp ht
        have Ht := Lib.hid ht
        have hes : (t.extract 1 t.size).size ≤ maxLen := by simp; omega
        clear h0 ht
        by_cases c43 : t[0] = 43
        · have g43 : (((t[0].toNat : Int) == 43) : Bool) = true := u8_true _ _ c43
          have Hs := Lib.hid (act_step cls dir f t r x _ b hp Ht.out (by unfold applyS; rw [if_pos c43]))
          clear c43
          go_wp2_with (go_at_call 30; refine (take_at _ r x dir b Ht.out hes _).mono ?_; rintro e w' ⟨rfl, nq, rfl⟩)
          go_roundw
          case rel => exact ⟨r, f, _, rfl, rfl, by omega, by omega, by rw [← Hs.out, Hres.out], _, rfl⟩
          case measure => simp only [strLen]; omega
        have g43 : (((t[0].toNat : Int) == 43) : Bool) = false := u8_false _ _ c43
        by_cases c45 : t[0] = 45
        · have g45 : (((t[0].toNat : Int) == 45) : Bool) = true := u8_true _ _ c45
          have Hs := Lib.hid (act_step cls dir f t r x _ b hp Ht.out (by unfold applyS; rw [if_neg c43, if_pos c45]))
          clear c45
          go_wp2_with (go_at_call 30; refine (take_at _ r x dir b Ht.out hes _).mono ?_; rintro e w' ⟨rfl, nq, rfl⟩)
          go_roundw
          case rel => exact ⟨r, f, _, rfl, rfl, by omega, by omega, by rw [← Hs.out, Hres.out], _, rfl⟩
          case measure => simp only [strLen]; omega
        have g45 : (((t[0].toNat : Int) == 45) : Bool) = false := u8_false _ _ c45
        by_cases c61 : t[0] = 61
        · have g61 : (((t[0].toNat : Int) == 61) : Bool) = true := u8_true _ _ c61
          have Hs := Lib.hid (act_step cls dir f t r x _ b hp Ht.out (by unfold applyS; rw [if_neg c43, if_neg c45, if_pos c61]))
          clear c61
          go_wp2_with (go_at_call 30; refine (take_at _ r x dir b Ht.out hes _).mono ?_; rintro e w' ⟨rfl, nq, rfl⟩)
          go_roundw
          case rel => exact ⟨r, f, _, rfl, rfl, by omega, by omega, by rw [← Hs.out, Hres.out], _, rfl⟩
          case measure => simp only [strLen]; omega
        have g61 : (((t[0].toNat : Int) == 61) : Bool) = false := u8_false _ _ c61
        have Hs := Lib.hid (show clauseS s.data.toList m dir = none by rw [← Hres.out]; exact act_wrong cls dir f t r x b hp Ht.out (by unfold applyS; rw [if_neg c43, if_neg c45, if_neg c61]))
        clear c43 c45 c61
        go_wp2_with (go_at_call 30; refine (take_at _ r x dir b Ht.out hes _).mono ?_; rintro e w' ⟨rfl, nq, rfl⟩)
        go_ret2
        exact ⟨ret_val (by rw [Hs.out]; rfl), _, rfl⟩
end Go.Proofs.Ytmjjhoaplcjjcaa
