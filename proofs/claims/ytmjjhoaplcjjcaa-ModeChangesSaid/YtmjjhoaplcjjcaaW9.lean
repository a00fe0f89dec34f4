/- Contracts of bits, clause and Change of the document's answer. -/
import Derived.Test.YtmjjhoaplcjjcaaW8
import Derived.Test.YtmjjhoaplcjjcaaW5
import Derived.WalkSmall
namespace Go.Proofs.Ytmjjhoaplcjjcaa
open Go.RowKit

theorem bT_r : ∀ who : Fin 8, bT3 4 32 256 (who.val : Int) = ((292 &&& mineS who.val : Nat) : Int) := by decide +kernel
theorem bT_w : ∀ who : Fin 8, bT3 2 16 128 (who.val : Int) = ((146 &&& mineS who.val : Nat) : Int) := by decide +kernel
theorem bT_x : ∀ who : Fin 8, bT3 1 8 64 (who.val : Int) = ((73 &&& mineS who.val : Nat) : Int) := by decide +kernel
theorem bT_0 : ∀ who : Fin 8, bT3 0 0 0 (who.val : Int) = ((0 &&& mineS who.val : Nat) : Int) := by decide +kernel
theorem bT_s : ∀ who : Fin 8, (if (bits .and .i64 (who.val : Int) 4 != 0) = true then (2048 : Int) else 0) = ((2048 &&& mineS who.val : Nat) : Int) := by decide +kernel
theorem bT_t : ∀ who : Fin 8, (if (bits .and .i64 (who.val : Int) 1 != 0) = true then (512 : Int) else 0) = ((512 &&& mineS who.val : Nat) : Int) := by decide +kernel
theorem mineS_lt : ∀ who : Fin 8, mineS who.val < 4096 := by decide +kernel

theorem bits_any (c : UInt8) (who q : Nat) (m : Int) (dir : Bool) (hw : who < 8) (hq : litOf m dir c = some q) (w : World) :
    Calls Try.prog 32 #[.int .u8 (c.toNat : Int), .int .i64 (who : Int), .int .i64 m, .bool dir] w fun e w' => e = .returned (.int .i64 ((q &&& mineS who : Nat) : Int)) ∧ w = w' := by
  unfold litOf at hq
  by_cases h114 : c = 114
  · rw [if_pos h114] at hq
    obtain rfl := Option.some.inj hq
    rw [← bT_r ⟨who, hw⟩]
    exact bits_r _ _ _ _ (u8_true _ _ h114) w
  by_cases h119 : c = 119
  · rw [if_neg h114, if_pos h119] at hq
    obtain rfl := Option.some.inj hq
    rw [← bT_w ⟨who, hw⟩]
    exact bits_w _ _ _ _ (u8_false _ _ h114) (u8_true _ _ h119) w
  by_cases h120 : c = 120
  · rw [if_neg h114, if_neg h119, if_pos h120] at hq
    obtain rfl := Option.some.inj hq
    rw [← bT_x ⟨who, hw⟩]
    exact bits_x _ _ _ _ (u8_false _ _ h114) (u8_false _ _ h119) (u8_true _ _ h120) w
  by_cases h88 : c = 88
  · rw [if_neg h114, if_neg h119, if_neg h120, if_pos h88] at hq
    obtain rfl := Option.some.inj hq
    cases hd : dir
    · cases hx : (bits .and .i64 m 73 != 0)
      · rw [Bool.or_false, if_neg Bool.false_ne_true, ← bT_0 ⟨who, hw⟩]
        exact bits_Xf _ _ _ _ (u8_false _ _ h114) (u8_false _ _ h119) (u8_false _ _ h120) (u8_true _ _ h88) rfl hx w
      · rw [Bool.or_true, if_pos rfl, ← bT_x ⟨who, hw⟩]
        exact bits_Xm _ _ _ _ (u8_false _ _ h114) (u8_false _ _ h119) (u8_false _ _ h120) (u8_true _ _ h88) rfl hx w
    · rw [Bool.true_or, if_pos rfl, ← bT_x ⟨who, hw⟩]
      exact bits_Xt _ _ _ _ (u8_false _ _ h114) (u8_false _ _ h119) (u8_false _ _ h120) (u8_true _ _ h88) rfl w
  by_cases h115 : c = 115
  · rw [if_neg h114, if_neg h119, if_neg h120, if_neg h88, if_pos h115] at hq
    obtain rfl := Option.some.inj hq
    rw [← bT_s ⟨who, hw⟩]
    exact bits_s _ _ _ _ (u8_false _ _ h114) (u8_false _ _ h119) (u8_false _ _ h120) (u8_false _ _ h88) (u8_true _ _ h115) w
  by_cases h116 : c = 116
  · rw [if_neg h114, if_neg h119, if_neg h120, if_neg h88, if_neg h115, if_pos h116] at hq
    obtain rfl := Option.some.inj hq
    rw [← bT_t ⟨who, hw⟩]
    exact bits_t _ _ _ _ (u8_false _ _ h114) (u8_false _ _ h119) (u8_false _ _ h120) (u8_false _ _ h88) (u8_false _ _ h115) (u8_true _ _ h116) w
  rw [if_neg h114, if_neg h119, if_neg h120, if_neg h88, if_neg h115, if_neg h116] at hq
  cases hq
/-! clause -/
theorem at_of (l : ByteArray) (c : UInt8) (x : Int) (hl : l.size ≤ maxLen) (h : Lib.indexByte l.data.toList c = x) (w : World) :
    Calls Try.prog 31 #[.string l, .int .u8 (c.toNat : Int)] w fun e w' => e = .returned (.int .i64 x) ∧ w = w' := by
  subst h; exact at_any l c hl w
theorem at_cls (c d : UInt8) (x : Int) (hc : c = d) (h : Lib.indexByte [117, 103, 111, 97] d = x) (w : World) :
    Calls Try.prog 31 #[.string ⟨#[117, 103, 111, 97]⟩, .int .u8 (c.toNat : Int)] w fun e w' => e = .returned (.int .i64 x) ∧ w = w' := by
  subst hc; exact at_of _ _ _ (by decide) h w
theorem at_cls_no (c : UInt8) (hc : clsOf c = none) (w : World) :
    Calls Try.prog 31 #[.string ⟨#[117, 103, 111, 97]⟩, .int .u8 (c.toNat : Int)] w fun e w' => e = .returned (.int .i64 (-1)) ∧ w = w' := by
  refine at_of _ _ _ (by decide) ?_ w
  unfold clsOf at hc
  show Lib.indexByte [117, 103, 111, 97] c = -1
  by_cases h1 : c = 117
  · rw [if_pos h1] at hc; cases hc
  by_cases h2 : c = 103
  · rw [if_neg h1, if_pos h2] at hc; cases hc
  by_cases h3 : c = 111
  · rw [if_neg h1, if_neg h2, if_pos h3] at hc; cases hc
  by_cases h4 : c = 97
  · rw [if_neg h1, if_neg h2, if_neg h3, if_pos h4] at hc; cases hc
  simp [Lib.indexByte, Ne.symm h1, Ne.symm h2, Ne.symm h3, Ne.symm h4]
theorem lit_index (m : Int) (dir : Bool) (c : UInt8) : 0 ≤ Lib.indexByte [114, 119, 120, 88, 115, 116] c ↔ litOf m dir c ≠ none := by
  unfold litOf
  by_cases h1 : c = 114
  · subst h1; simp; decide
  by_cases h2 : c = 119
  · subst h2; simp; decide
  by_cases h3 : c = 120
  · subst h3; simp; decide
  by_cases h4 : c = 88
  · subst h4; simp; decide
  by_cases h5 : c = 115
  · subst h5; simp; decide
  by_cases h6 : c = 116
  · subst h6; simp; decide
  simp [Lib.indexByte, h1, h2, h3, h4, h5, h6, Ne.symm h1, Ne.symm h2, Ne.symm h3, Ne.symm h4, Ne.symm h5, Ne.symm h6]
theorem at_lit (c : UInt8) (q : Nat) (m : Int) (dir : Bool) (hq : litOf m dir c = some q) (w : World) :
    Calls Try.prog 31 #[.string ⟨#[114, 119, 120, 88, 115, 116]⟩, .int .u8 (c.toNat : Int)] w fun e w' => e = .returned (.int .i64 (((Lib.indexByte [114, 119, 120, 88, 115, 116] c).toNat : Nat) : Int)) ∧ w = w' := by
  refine at_of _ _ _ (by decide) ?_ w
  have := (lit_index m dir c).2 (by rw [hq]; simp)
  show Lib.indexByte [114, 119, 120, 88, 115, 116] c = _
  omega
theorem at_lit_no (c : UInt8) (m : Int) (dir : Bool) (hq : litOf m dir c = none) (w : World) :
    Calls Try.prog 31 #[.string ⟨#[114, 119, 120, 88, 115, 116]⟩, .int .u8 (c.toNat : Int)] w fun e w' => e = .returned (.int .i64 (-1)) ∧ w = w' := by
  refine at_of _ _ _ (by decide) ?_ w
  have h := lit_index m dir c
  rw [hq] at h
  have g := Lib.indexByte_ge [114, 119, 120, 88, 115, 116] c
  show Lib.indexByte [114, 119, 120, 88, 115, 116] c = -1
  have : ¬ 0 ≤ Lib.indexByte [114, 119, 120, 88, 115, 116] c := fun x => (h.1 x) rfl
  omega
theorem at_sign (c d : UInt8) (x : Int) (hc : c = d) (h : Lib.indexByte [43, 45, 61] d = x) (w : World) :
    Calls Try.prog 31 #[.string ⟨#[43, 45, 61]⟩, .int .u8 (c.toNat : Int)] w fun e w' => e = .returned (.int .i64 x) ∧ w = w' := by
  subst hc; exact at_of _ _ _ (by decide) h w
theorem at_sign_no (c : UInt8) (h1 : ¬ c = 43) (h2 : ¬ c = 45) (h3 : ¬ c = 61) (w : World) :
    Calls Try.prog 31 #[.string ⟨#[43, 45, 61]⟩, .int .u8 (c.toNat : Int)] w fun e w' => e = .returned (.int .i64 (-1)) ∧ w = w' := by
  refine at_of _ _ _ (by decide) ?_ w
  show Lib.indexByte [43, 45, 61] c = -1
  simp [Lib.indexByte, Ne.symm h1, Ne.symm h2, Ne.symm h3]
theorem mine_at (who : Nat) (x : Int) (h : who < 8) (hx : (who : Int) = x) (w : World) :
    Calls Try.prog 33 #[.int .i64 x] w fun e w' => e = .returned (.int .i64 ((mineS who : Nat) : Int)) ∧ w = w' := by
  subst hx; exact mine_any who h w
theorem bits_at (c : UInt8) (who q : Nat) (x m : Int) (dir : Bool) (hw : who < 8) (hx : (who : Int) = x) (hq : litOf m dir c = some q) (w : World) :
    Calls Try.prog 32 #[.int .u8 (c.toNat : Int), .int .i64 x, .int .i64 m, .bool dir] w fun e w' => e = .returned (.int .i64 ((q &&& mineS who : Nat) : Int)) ∧ w = w' := by
  subst hx; exact bits_any c who q m dir hw hq w
theorem mine_or : ∀ who : Fin 8, mineS (who.val ||| 4) = mineS who.val ||| 2496 ∧ mineS (who.val ||| 2) = mineS who.val ||| 56 ∧ mineS (who.val ||| 1) = mineS who.val ||| 519 ∧ mineS (who.val ||| 7) = mineS who.val ||| 3071 := by decide +kernel

def clRel (s : ByteArray) (B : Nat) (w : World) (wv iv : Value) (wr : World) : Prop :=
  ∃ k who : Nat, k ≤ s.size ∧ who < 8 ∧ iv = .int .i64 k ∧ wv = .int .i64 who ∧ (0 < k → ¬ who = 0 ∧ splitS s.data.toList = takeF clsOf s.data.toList 0) ∧ (k = 0 → who = 0) ∧
    takeF clsOf (s.data.toList.drop k) (mineS who) = takeF clsOf s.data.toList 0 ∧ Below B w wr
theorem cl_step (s : ByteArray) (B : Nat) (w wr : World) (k who b q : Nat) (hk : k < s.size) (hw : who < 8) (hq : q < 8) (hq0 : ¬ q = 0) (hf : clsOf s[k] = some b) (hm : mineS (who ||| q) = mineS who ||| b)
    (h1 : Hid (0 < k → ¬ who = 0 ∧ splitS s.data.toList = takeF clsOf s.data.toList 0))
    (h3 : Hid (takeF clsOf (s.data.toList.drop k) (mineS who) = takeF clsOf s.data.toList 0)) (hb : Below B w wr) :
    clRel s B w (.int .i64 (bits .or .i64 (who : Int) (q : Int))) (.int .i64 ((k : Int) + 1)) wr := by
  refine ⟨k + 1, who ||| q, by omega, Nat.or_lt_two_pow (n := 3) hw hq, by go_num, by rw [or_nat _ _ (by omega) (by omega)], fun _ => ⟨?_, split_first s b k hk hf (Lib.hid fun h => (h1.out h).2)⟩, fun h => by omega, ?_, hb⟩
  · intro e
    have := Nat.right_le_or (n := who) (m := q)
    omega
  · rw [hm, ← h3.out, takeF_step clsOf s k _ b hk hf]

def act2Rel (s : ByteArray) (cls : Nat) (dir : Bool) (res : Option Int) (mv iv : Value) : Prop :=
  ∃ (k f : Nat) (x : Int), k ≤ s.size ∧ iv = .int .i64 k ∧ mv = .int .i64 x ∧ s.size - k ≤ f ∧ actS cls dir f (s.data.toList.drop k) x = res
def litRel (s : ByteArray) (cls : Nat) (x : Int) (dir : Bool) (t : Nat × List UInt8) (n : Nat) (iv bv : Value) : Prop :=
  ∃ k v : Nat, n ≤ k ∧ k ≤ s.size ∧ iv = .int .i64 k ∧ v < 4096 ∧ bv = .int .i64 ((v &&& cls : Nat) : Int) ∧ takeF (litOf x dir) (s.data.toList.drop k) v = t
theorem lit_lt (m : Int) (dir : Bool) (c : UInt8) (q : Nat) (h : litOf m dir c = some q) : q < 4096 := by
  unfold litOf at h
  split at h
  · simp at h; omega
  · split at h
    · simp at h; omega
    · split at h
      · simp at h; omega
      · split at h
        · simp at h; split at h <;> omega
        · split at h
          · simp at h; omega
          · split at h
            · simp at h; omega
            · cases h
theorem lit_step (s : ByteArray) (cls : Nat) (x : Int) (dir : Bool) (t : Nat × List UInt8) (n k v q : Nat) (hn : n ≤ k) (hk : k < s.size) (hv : v < 4096) (hq : litOf x dir s[k] = some q)
    (h : Hid (takeF (litOf x dir) (s.data.toList.drop k) v = t)) :
    litRel s cls x dir t n (.int .i64 ((k : Int) + 1)) (.int .i64 (bits .or .i64 ((v &&& cls : Nat) : Int) ((q &&& cls : Nat) : Int))) := by
  have hq4 := lit_lt x dir _ q hq
  have l1 : v &&& cls ≤ v := Nat.and_le_left
  have l2 : q &&& cls ≤ q := Nat.and_le_left
  refine ⟨k + 1, v ||| q, by omega, by omega, by go_num, or_lt _ _ hv hq4, ?_, ?_⟩
  · rw [or_nat _ _ (by omega) (by omega), Nat.and_or_distrib_right]
  · rw [← h.out, takeF_step _ s k v q hk hq]
theorem act2_step (s : ByteArray) (cls : Nat) (dir : Bool) (res : Option Int) (k k' f v : Nat) (x y : Int) (hk : k < s.size) (hk' : k + 1 ≤ k') (hs : k' ≤ s.size) (hf : s.size - k ≤ f)
    (h : Hid (actS cls dir f (s.data.toList.drop k) x = res)) (ht : takeF (litOf x dir) (s.data.toList.drop (k + 1)) 0 = (v, s.data.toList.drop k')) (hy : applyS cls v s[k] x = some y) :
    act2Rel s cls dir res (.int .i64 y) (.int .i64 (k' : Int)) := by
  obtain ⟨f, rfl⟩ : ∃ g, f = g + 1 := ⟨f - 1, by omega⟩
  refine ⟨k', f, y, hs, rfl, rfl, by omega, ?_⟩
  rw [← h.out, drop_eq s k hk, actS, ht]
  simp only [hy]
theorem act2_wrong (s : ByteArray) (cls : Nat) (dir : Bool) (res : Option Int) (k f : Nat) (x : Int) (hk : k < s.size) (hf : s.size - k ≤ f)
    (h : Hid (actS cls dir f (s.data.toList.drop k) x = res)) (h1 : ¬ s[k] = 43) (h2 : ¬ s[k] = 45) (h3 : ¬ s[k] = 61) : res = none := by
  obtain ⟨f, rfl⟩ : ∃ g, f = g + 1 := ⟨f - 1, by omega⟩
  rw [← h.out, drop_eq s k hk, actS]
  unfold applyS
  simp only [if_neg h1, if_neg h2, if_neg h3]
theorem act2_end (s : ByteArray) (cls : Nat) (dir : Bool) (res : Option Int) (k f : Nat) (x : Int) (hk : s.size ≤ k)
    (h : Hid (actS cls dir f (s.data.toList.drop k) x = res)) : res = some x := by
  rw [← h.out, List.drop_of_length_le (by simpa using hk)]
  cases f <;> rfl
/-- what is read, when the classes' letters have ended. -/
theorem cl_done (s : ByteArray) (k who : Nat) (m : Int) (dir : Bool) (hk : k < s.size) (hf : clsOf s[k] = none)
    (h1 : Hid (0 < k → ¬ who = 0 ∧ splitS s.data.toList = takeF clsOf s.data.toList 0)) (h2 : k = 0 → who = 0)
    (h3 : Hid (takeF clsOf (s.data.toList.drop k) (mineS who) = takeF clsOf s.data.toList 0)) (wf : Nat) (hwf : wf = if who = 0 then 7 else who) :
    clauseS s.data.toList m dir = actS (mineS wf) dir (s.size - k) (s.data.toList.drop k) m := by
  have e : splitS s.data.toList = (mineS wf, s.data.toList.drop k) := by
    by_cases h0 : 0 < k
    · obtain ⟨hn, e⟩ := h1.out h0
      rw [e, ← h3.out, takeF_stop clsOf s k _ hk hf, hwf, if_neg hn]
    · obtain rfl : k = 0 := by omega
      rw [split_none s hk hf, hwf, if_pos (h2 rfl)]; rfl
  unfold clauseS
  rw [e, if_neg (by simp; omega)]
  simp
theorem cl_none (s : ByteArray) (k who : Nat) (m : Int) (dir : Bool) (hk : s.size ≤ k)
    (h1 : Hid (0 < k → ¬ who = 0 ∧ splitS s.data.toList = takeF clsOf s.data.toList 0))
    (h3 : Hid (takeF clsOf (s.data.toList.drop k) (mineS who) = takeF clsOf s.data.toList 0)) : clauseS s.data.toList m dir = none := by
  have e : splitS s.data.toList = takeF clsOf s.data.toList 0 := by
    by_cases h0 : 0 < k
    · exact (h1.out h0).2
    · exact split_nil s (by omega)
  unfold clauseS
  rw [e, ← h3.out, takeF_end clsOf s k _ hk, if_pos rfl]

set_option maxHeartbeats 4000000 in
theorem clause_any (s : ByteArray) (m : Int) (dir : Bool) (hs : s.size ≤ maxLen) (w : World) :
    Calls Try.prog 27 #[.string s, .int .i64 m, .bool dir] w fun e w' => e = .returned (optV (clauseS s.data.toList m dir)) ∧ Below w.heap.size w w' := by
  unfold maxLen at hs
  obtain ⟨B, hB⟩ : ∃ B, w.heap.size = B := ⟨_, rfl⟩
  have HB := Lib.hid hB
  go_enter Try.func27, Try.ntmps27
  go_wp2
  go_loopw [8, 9, 10] (fun wv iv _ wr => clRel s B w wv iv wr) (fun _ iv _ _ => s.size - (intOf iv).toNat)
  case atStart => exact ⟨0, 0, Nat.zero_le _, by decide, rfl, rfl, fun h => absurd h (by decide), fun _ => rfl, rfl, by rw [← hB]; exact Below.refl _ _⟩
  case round =>
    obtain ⟨k, who, hk, hw8, rfl, rfl, h1, h2, h3, hbel⟩ := hrel
    have H1 := Lib.hid h1
    have H2 := Lib.hid h2
    have H3 := Lib.hid h3
    clear h1 h2 h3 hB
    have hsz : B ≤ wr.heap.size := by have := hbel.size; have := HB.out; omega
    by_cases hlt : k < s.size
    · cases hcl : clsOf s[k] with
      | some b =>
        have Hf := Lib.hid hcl
        clear hcl
        have hm := mine_or ⟨who, hw8⟩
        have Hm := Lib.hid hm
        clear hm
        by_cases h117 : s[k] = 117
        · have Hc := Lib.hid h117
          have e : clsOf s[k] = some 2496 := by rw [h117]; rfl
          have E := Lib.hid e
          clear h117 e
          go_wp2_with (go_at_call 31; refine (at_cls s[k] 117 0 Hc.out rfl _).mono ?_; rintro e w' ⟨rfl, rfl⟩)
          go_roundw
          case rel => exact cl_step s B w _ k who 2496 4 hlt hw8 (by decide) (by decide) E.out Hm.out.1 H1 H3 (hbel.alloc hsz _)
          case measure => simp [intOf]; omega
        by_cases h103 : s[k] = 103
        · have Hc := Lib.hid h103
          have e : clsOf s[k] = some 56 := by rw [h103]; rfl
          have E := Lib.hid e
          clear h103 e
          go_wp2_with (go_at_call 31; refine (at_cls s[k] 103 1 Hc.out rfl _).mono ?_; rintro e w' ⟨rfl, rfl⟩)
          go_roundw
          case rel => exact cl_step s B w _ k who 56 2 hlt hw8 (by decide) (by decide) E.out Hm.out.2.1 H1 H3 (hbel.alloc hsz _)
          case measure => simp [intOf]; omega
        by_cases h111 : s[k] = 111
        · have Hc := Lib.hid h111
          have e : clsOf s[k] = some 519 := by rw [h111]; rfl
          have E := Lib.hid e
          clear h111 e
          go_wp2_with (go_at_call 31; refine (at_cls s[k] 111 2 Hc.out rfl _).mono ?_; rintro e w' ⟨rfl, rfl⟩)
          go_roundw
          case rel => exact cl_step s B w _ k who 519 1 hlt hw8 (by decide) (by decide) E.out Hm.out.2.2.1 H1 H3 (hbel.alloc hsz _)
          case measure => simp [intOf]; omega
        by_cases h97 : s[k] = 97
        · have Hc := Lib.hid h97
          have e : clsOf s[k] = some 3071 := by rw [h97]; rfl
          have E := Lib.hid e
          clear h97 e
          go_wp2_with (go_at_call 31; refine (at_cls s[k] 97 3 Hc.out rfl _).mono ?_; rintro e w' ⟨rfl, rfl⟩)
          go_roundw
          case rel => exact cl_step s B w _ k who 3071 7 hlt hw8 (by decide) (by decide) E.out Hm.out.2.2.2 H1 H3 (hbel.alloc hsz _)
          case measure => simp [intOf]; omega
        exfalso
        have h := Hf.out
        unfold clsOf at h
        rw [if_neg h117, if_neg h103, if_neg h111, if_neg h97] at h
        cases h
      | none =>
        have Hf := Lib.hid hcl
        clear hcl
        have hkz : (((k : Int) == (s.size : Int)) : Bool) = false := by rw [beq_eq_false_iff_ne]; omega
        by_cases hw0 : who = 0
        · have hz : (((who : Int) == 0) : Bool) = true := by rw [beq_iff_eq]; omega
          have Hw0 := Lib.hid hw0
          clear hw0
          have hcs := cl_done s k who m dir hlt Hf.out H1 H2.out H3 7 (by rw [if_pos Hw0.out])
          have Hcs := Lib.hid hcs
          clear hcs
          go_wp2_with (go_at_call 31; refine (at_cls_no s[k] Hf.out _).mono ?_; rintro e w' ⟨rfl, rfl⟩)
          clear H1 H2 H3 Hf hkz
          obtain ⟨wo, rfl⟩ : ∃ wo : World, wo = wr := ⟨_, rfl⟩
          go_loop [1, 9, 11, 12] (fun mv iv _ _ => act2Rel s (mineS 7) dir (clauseS s.data.toList m dir) mv iv) (fun _ iv _ _ => s.size - (intOf iv).toNat)
          case atStart => exact ⟨k, s.size - k, m, by omega, rfl, rfl, Nat.le_refl _, Hcs.out.symm⟩
          case round =>
            clear Hcs
            obtain ⟨k2, f, x, hk2, rfl, rfl, hf2, hres⟩ := hrel
            have Hres := Lib.hid hres
            clear hres
            by_cases hl2 : k2 < s.size
            · skip
              by_cases c43 : s[k2] = 43
              · have Hc := Lib.hid c43
                have t43 : (((s[k2].toNat : Int) == 43) : Bool) = true := u8_true _ _ c43
                have Ha := Lib.hid (show ∀ v : Nat, applyS (mineS 7) v s[k2] x = some _ from fun v => by unfold applyS; rw [if_pos c43])
                clear c43 
                go_wp2_with (go_at_call 31; refine (at_sign s[k2] 43 0 Hc.out rfl _).mono ?_; rintro e w' ⟨rfl, rfl⟩)
                go_loop [9, 12] (fun iv bv => litRel s (mineS 7) x dir (takeF (litOf x dir) (s.data.toList.drop (k2 + 1)) 0) (k2 + 1) iv bv) (fun iv _ => s.size - (intOf iv).toNat)
                case atStart => exact ⟨k2 + 1, 0, Nat.le_refl _, by omega, by go_num, by decide, by rw [Nat.zero_and]; rfl, rfl⟩
                case round =>
                  obtain ⟨k3, v, hn3, hk3, rfl, hv, rfl, ht⟩ := hrel
                  have Ht := Lib.hid ht
                  clear ht
                  by_cases hl3 : k3 < s.size
                  · cases hq : litOf x dir s[k3] with
                    | some qq =>
                      have Hq := Lib.hid hq
                      clear hq
                      go_wp2_with (first | (go_at_call 31; (with_reducible refine (at_lit s[k3] qq x dir Hq.out _).mono ?_); rintro e w' ⟨rfl, rfl⟩) | (go_at_call 32; refine (bits_at s[k3] 7 qq _ x dir (by decide) rfl Hq.out _).mono ?_; rintro e w' ⟨rfl, rfl⟩))
                      go_round
                      case rel => exact lit_step s (mineS 7) x dir _ (k2 + 1) k3 v qq hn3 hl3 hv Hq.out Ht
                      case measure => simp [intOf]; omega
                    | none =>
                      have Hq := Lib.hid hq
                      clear hq
                      have Hend := Lib.hid (show takeF (litOf x dir) (s.data.toList.drop (k2 + 1)) 0 = (v, s.data.toList.drop k3) by rw [← Ht.out, takeF_stop _ s k3 v hl3 Hq.out])
                      clear Ht
                      go_wp2_with ((go_at_call 31; (with_reducible refine (at_lit_no s[k3] x dir Hq.out _).mono ?_); rintro e w' ⟨rfl, rfl⟩))
                      go_round
                      case rel => exact act2_step s (mineS 7) dir _ k2 k3 f v x _ hl2 hn3 (by omega) hf2 Hres Hend.out (by rw [Ha.out v, and_nat v (mineS 7) (by omega) (Nat.lt_trans (mineS_lt ⟨7, (by decide)⟩) (by decide))])
                      case measure => simp [intOf]; omega
                  · have Hend := Lib.hid (show takeF (litOf x dir) (s.data.toList.drop (k2 + 1)) 0 = (v, s.data.toList.drop k3) by rw [← Ht.out, takeF_end _ s k3 v (by omega), List.drop_of_length_le (by simp; omega)])
                    clear Ht
                    go_wp2
                    go_round
                    case rel => exact act2_step s (mineS 7) dir _ k2 k3 f v x _ hl2 hn3 (by omega) hf2 Hres Hend.out (by rw [Ha.out v, and_nat v (mineS 7) (by omega) (Nat.lt_trans (mineS_lt ⟨7, (by decide)⟩) (by decide))])
                    case measure => simp [intOf]; omega
              by_cases c45 : s[k2] = 45
              · have Hc := Lib.hid c45
                have t43 : (((s[k2].toNat : Int) == 43) : Bool) = false := u8_false _ _ c43
                have t45 : (((s[k2].toNat : Int) == 45) : Bool) = true := u8_true _ _ c45
                have Ha := Lib.hid (show ∀ v : Nat, applyS (mineS 7) v s[k2] x = some _ from fun v => by unfold applyS; rw [if_neg c43, if_pos c45])
                clear c45 c43
                go_wp2_with (go_at_call 31; refine (at_sign s[k2] 45 1 Hc.out rfl _).mono ?_; rintro e w' ⟨rfl, rfl⟩)
                go_loop [9, 12] (fun iv bv => litRel s (mineS 7) x dir (takeF (litOf x dir) (s.data.toList.drop (k2 + 1)) 0) (k2 + 1) iv bv) (fun iv _ => s.size - (intOf iv).toNat)
                case atStart => exact ⟨k2 + 1, 0, Nat.le_refl _, by omega, by go_num, by decide, by rw [Nat.zero_and]; rfl, rfl⟩
                case round =>
                  obtain ⟨k3, v, hn3, hk3, rfl, hv, rfl, ht⟩ := hrel
                  have Ht := Lib.hid ht
                  clear ht
                  by_cases hl3 : k3 < s.size
                  · cases hq : litOf x dir s[k3] with
                    | some qq =>
                      have Hq := Lib.hid hq
                      clear hq
                      go_wp2_with (first | (go_at_call 31; (with_reducible refine (at_lit s[k3] qq x dir Hq.out _).mono ?_); rintro e w' ⟨rfl, rfl⟩) | (go_at_call 32; refine (bits_at s[k3] 7 qq _ x dir (by decide) rfl Hq.out _).mono ?_; rintro e w' ⟨rfl, rfl⟩))
                      go_round
                      case rel => exact lit_step s (mineS 7) x dir _ (k2 + 1) k3 v qq hn3 hl3 hv Hq.out Ht
                      case measure => simp [intOf]; omega
                    | none =>
                      have Hq := Lib.hid hq
                      clear hq
                      have Hend := Lib.hid (show takeF (litOf x dir) (s.data.toList.drop (k2 + 1)) 0 = (v, s.data.toList.drop k3) by rw [← Ht.out, takeF_stop _ s k3 v hl3 Hq.out])
                      clear Ht
                      go_wp2_with ((go_at_call 31; (with_reducible refine (at_lit_no s[k3] x dir Hq.out _).mono ?_); rintro e w' ⟨rfl, rfl⟩))
                      go_round
                      case rel => exact act2_step s (mineS 7) dir _ k2 k3 f v x _ hl2 hn3 (by omega) hf2 Hres Hend.out (by rw [Ha.out v, and_nat v (mineS 7) (by omega) (Nat.lt_trans (mineS_lt ⟨7, (by decide)⟩) (by decide))])
                      case measure => simp [intOf]; omega
                  · have Hend := Lib.hid (show takeF (litOf x dir) (s.data.toList.drop (k2 + 1)) 0 = (v, s.data.toList.drop k3) by rw [← Ht.out, takeF_end _ s k3 v (by omega), List.drop_of_length_le (by simp; omega)])
                    clear Ht
                    go_wp2
                    go_round
                    case rel => exact act2_step s (mineS 7) dir _ k2 k3 f v x _ hl2 hn3 (by omega) hf2 Hres Hend.out (by rw [Ha.out v, and_nat v (mineS 7) (by omega) (Nat.lt_trans (mineS_lt ⟨7, (by decide)⟩) (by decide))])
                    case measure => simp [intOf]; omega
              by_cases c61 : s[k2] = 61
              · have Hc := Lib.hid c61
                have t43 : (((s[k2].toNat : Int) == 43) : Bool) = false := u8_false _ _ c43
                have t45 : (((s[k2].toNat : Int) == 45) : Bool) = false := u8_false _ _ c45
                have t61 : (((s[k2].toNat : Int) == 61) : Bool) = true := u8_true _ _ c61
                have Ha := Lib.hid (show ∀ v : Nat, applyS (mineS 7) v s[k2] x = some _ from fun v => by unfold applyS; rw [if_neg c43, if_neg c45, if_pos c61])
                clear c61 c43 c45
                go_wp2_with (go_at_call 31; refine (at_sign s[k2] 61 2 Hc.out rfl _).mono ?_; rintro e w' ⟨rfl, rfl⟩)
                go_loop [9, 12] (fun iv bv => litRel s (mineS 7) x dir (takeF (litOf x dir) (s.data.toList.drop (k2 + 1)) 0) (k2 + 1) iv bv) (fun iv _ => s.size - (intOf iv).toNat)
                case atStart => exact ⟨k2 + 1, 0, Nat.le_refl _, by omega, by go_num, by decide, by rw [Nat.zero_and]; rfl, rfl⟩
                case round =>
                  obtain ⟨k3, v, hn3, hk3, rfl, hv, rfl, ht⟩ := hrel
                  have Ht := Lib.hid ht
                  clear ht
                  by_cases hl3 : k3 < s.size
                  · cases hq : litOf x dir s[k3] with
                    | some qq =>
                      have Hq := Lib.hid hq
                      clear hq
                      go_wp2_with (first | (go_at_call 31; (with_reducible refine (at_lit s[k3] qq x dir Hq.out _).mono ?_); rintro e w' ⟨rfl, rfl⟩) | (go_at_call 32; refine (bits_at s[k3] 7 qq _ x dir (by decide) rfl Hq.out _).mono ?_; rintro e w' ⟨rfl, rfl⟩))
                      go_round
                      case rel => exact lit_step s (mineS 7) x dir _ (k2 + 1) k3 v qq hn3 hl3 hv Hq.out Ht
                      case measure => simp [intOf]; omega
                    | none =>
                      have Hq := Lib.hid hq
                      clear hq
                      have Hend := Lib.hid (show takeF (litOf x dir) (s.data.toList.drop (k2 + 1)) 0 = (v, s.data.toList.drop k3) by rw [← Ht.out, takeF_stop _ s k3 v hl3 Hq.out])
                      clear Ht
                      go_wp2_with (first | (go_at_call 31; (with_reducible refine (at_lit_no s[k3] x dir Hq.out _).mono ?_); rintro e w' ⟨rfl, rfl⟩) | (go_at_call 33; refine (mine_at 7 _ (by decide) rfl _).mono ?_; rintro e w' ⟨rfl, rfl⟩))
                      go_round
                      case rel => exact act2_step s (mineS 7) dir _ k2 k3 f v x _ hl2 hn3 (by omega) hf2 Hres Hend.out (by rw [Ha.out v, and_nat v (mineS 7) (by omega) (Nat.lt_trans (mineS_lt ⟨7, (by decide)⟩) (by decide))])
                      case measure => simp [intOf]; omega
                  · have Hend := Lib.hid (show takeF (litOf x dir) (s.data.toList.drop (k2 + 1)) 0 = (v, s.data.toList.drop k3) by rw [← Ht.out, takeF_end _ s k3 v (by omega), List.drop_of_length_le (by simp; omega)])
                    clear Ht
                    go_wp2_with (go_at_call 33; refine (mine_at 7 _ (by decide) rfl _).mono ?_; rintro e w' ⟨rfl, rfl⟩)
                    go_round
                    case rel => exact act2_step s (mineS 7) dir _ k2 k3 f v x _ hl2 hn3 (by omega) hf2 Hres Hend.out (by rw [Ha.out v, and_nat v (mineS 7) (by omega) (Nat.lt_trans (mineS_lt ⟨7, (by decide)⟩) (by decide))])
                    case measure => simp [intOf]; omega
              have Hs := Lib.hid (act2_wrong s _ dir _ k2 f x hl2 hf2 Hres c43 c45 c61)
              have Hc := Lib.hid (⟨c43, c45, c61⟩ : ¬ s[k2] = 43 ∧ ¬ s[k2] = 45 ∧ ¬ s[k2] = 61)
              clear c43 c45 c61 Hres
              go_wp2_with (go_at_call 31; refine (at_sign_no s[k2] Hc.out.1 Hc.out.2.1 Hc.out.2.2 _).mono ?_; rintro e w' ⟨rfl, rfl⟩)
              go_ret2
              exact ⟨ret_val (by rw [Hs.out]; rfl), by rw [HB.out]; exact hbel⟩
            · have He := Lib.hid (act2_end s _ dir _ k2 f x (by omega) Hres)
              clear Hres
              go_wp2
              go_ret2
              exact ⟨ret_val (by rw [He.out]; rfl), by rw [HB.out]; exact hbel⟩
        · have hz : (((who : Int) == 0) : Bool) = false := by rw [beq_eq_false_iff_ne]; omega
          have Hw0 := Lib.hid hw0
          clear hw0
          have hcs := cl_done s k who m dir hlt Hf.out H1 H2.out H3 who (by rw [if_neg Hw0.out])
          have Hcs := Lib.hid hcs
          clear hcs
          go_wp2_with (go_at_call 31; refine (at_cls_no s[k] Hf.out _).mono ?_; rintro e w' ⟨rfl, rfl⟩)
          clear H1 H2 H3 Hf hkz
          obtain ⟨wo, rfl⟩ : ∃ wo : World, wo = wr := ⟨_, rfl⟩
          go_loop [1, 9, 11, 12] (fun mv iv _ _ => act2Rel s (mineS who) dir (clauseS s.data.toList m dir) mv iv) (fun _ iv _ _ => s.size - (intOf iv).toNat)
          case atStart => exact ⟨k, s.size - k, m, by omega, rfl, rfl, Nat.le_refl _, Hcs.out.symm⟩
          case round =>
            clear Hcs
            obtain ⟨k2, f, x, hk2, rfl, rfl, hf2, hres⟩ := hrel
            have Hres := Lib.hid hres
            clear hres
            by_cases hl2 : k2 < s.size
            · skip
              by_cases c43 : s[k2] = 43
              · have Hc := Lib.hid c43
                have t43 : (((s[k2].toNat : Int) == 43) : Bool) = true := u8_true _ _ c43
                have Ha := Lib.hid (show ∀ v : Nat, applyS (mineS who) v s[k2] x = some _ from fun v => by unfold applyS; rw [if_pos c43])
                clear c43 
                go_wp2_with (go_at_call 31; refine (at_sign s[k2] 43 0 Hc.out rfl _).mono ?_; rintro e w' ⟨rfl, rfl⟩)
                go_loop [9, 12] (fun iv bv => litRel s (mineS who) x dir (takeF (litOf x dir) (s.data.toList.drop (k2 + 1)) 0) (k2 + 1) iv bv) (fun iv _ => s.size - (intOf iv).toNat)
                case atStart => exact ⟨k2 + 1, 0, Nat.le_refl _, by omega, by go_num, by decide, by rw [Nat.zero_and]; rfl, rfl⟩
                case round =>
                  obtain ⟨k3, v, hn3, hk3, rfl, hv, rfl, ht⟩ := hrel
                  have Ht := Lib.hid ht
                  clear ht
                  by_cases hl3 : k3 < s.size
                  · cases hq : litOf x dir s[k3] with
                    | some qq =>
                      have Hq := Lib.hid hq
                      clear hq
                      go_wp2_with (first | (go_at_call 31; (with_reducible refine (at_lit s[k3] qq x dir Hq.out _).mono ?_); rintro e w' ⟨rfl, rfl⟩) | (go_at_call 32; refine (bits_at s[k3] who qq _ x dir hw8 rfl Hq.out _).mono ?_; rintro e w' ⟨rfl, rfl⟩))
                      go_round
                      case rel => exact lit_step s (mineS who) x dir _ (k2 + 1) k3 v qq hn3 hl3 hv Hq.out Ht
                      case measure => simp [intOf]; omega
                    | none =>
                      have Hq := Lib.hid hq
                      clear hq
                      have Hend := Lib.hid (show takeF (litOf x dir) (s.data.toList.drop (k2 + 1)) 0 = (v, s.data.toList.drop k3) by rw [← Ht.out, takeF_stop _ s k3 v hl3 Hq.out])
                      clear Ht
                      go_wp2_with ((go_at_call 31; (with_reducible refine (at_lit_no s[k3] x dir Hq.out _).mono ?_); rintro e w' ⟨rfl, rfl⟩))
                      go_round
                      case rel => exact act2_step s (mineS who) dir _ k2 k3 f v x _ hl2 hn3 (by omega) hf2 Hres Hend.out (by rw [Ha.out v, and_nat v (mineS who) (by omega) (Nat.lt_trans (mineS_lt ⟨who, hw8⟩) (by decide))])
                      case measure => simp [intOf]; omega
                  · have Hend := Lib.hid (show takeF (litOf x dir) (s.data.toList.drop (k2 + 1)) 0 = (v, s.data.toList.drop k3) by rw [← Ht.out, takeF_end _ s k3 v (by omega), List.drop_of_length_le (by simp; omega)])
                    clear Ht
                    go_wp2
                    go_round
                    case rel => exact act2_step s (mineS who) dir _ k2 k3 f v x _ hl2 hn3 (by omega) hf2 Hres Hend.out (by rw [Ha.out v, and_nat v (mineS who) (by omega) (Nat.lt_trans (mineS_lt ⟨who, hw8⟩) (by decide))])
                    case measure => simp [intOf]; omega
              by_cases c45 : s[k2] = 45
              · have Hc := Lib.hid c45
                have t43 : (((s[k2].toNat : Int) == 43) : Bool) = false := u8_false _ _ c43
                have t45 : (((s[k2].toNat : Int) == 45) : Bool) = true := u8_true _ _ c45
                have Ha := Lib.hid (show ∀ v : Nat, applyS (mineS who) v s[k2] x = some _ from fun v => by unfold applyS; rw [if_neg c43, if_pos c45])
                clear c45 c43
                go_wp2_with (go_at_call 31; refine (at_sign s[k2] 45 1 Hc.out rfl _).mono ?_; rintro e w' ⟨rfl, rfl⟩)
                go_loop [9, 12] (fun iv bv => litRel s (mineS who) x dir (takeF (litOf x dir) (s.data.toList.drop (k2 + 1)) 0) (k2 + 1) iv bv) (fun iv _ => s.size - (intOf iv).toNat)
                case atStart => exact ⟨k2 + 1, 0, Nat.le_refl _, by omega, by go_num, by decide, by rw [Nat.zero_and]; rfl, rfl⟩
                case round =>
                  obtain ⟨k3, v, hn3, hk3, rfl, hv, rfl, ht⟩ := hrel
                  have Ht := Lib.hid ht
                  clear ht
                  by_cases hl3 : k3 < s.size
                  · cases hq : litOf x dir s[k3] with
                    | some qq =>
                      have Hq := Lib.hid hq
                      clear hq
                      go_wp2_with (first | (go_at_call 31; (with_reducible refine (at_lit s[k3] qq x dir Hq.out _).mono ?_); rintro e w' ⟨rfl, rfl⟩) | (go_at_call 32; refine (bits_at s[k3] who qq _ x dir hw8 rfl Hq.out _).mono ?_; rintro e w' ⟨rfl, rfl⟩))
                      go_round
                      case rel => exact lit_step s (mineS who) x dir _ (k2 + 1) k3 v qq hn3 hl3 hv Hq.out Ht
                      case measure => simp [intOf]; omega
                    | none =>
                      have Hq := Lib.hid hq
                      clear hq
                      have Hend := Lib.hid (show takeF (litOf x dir) (s.data.toList.drop (k2 + 1)) 0 = (v, s.data.toList.drop k3) by rw [← Ht.out, takeF_stop _ s k3 v hl3 Hq.out])
                      clear Ht
                      go_wp2_with ((go_at_call 31; (with_reducible refine (at_lit_no s[k3] x dir Hq.out _).mono ?_); rintro e w' ⟨rfl, rfl⟩))
                      go_round
                      case rel => exact act2_step s (mineS who) dir _ k2 k3 f v x _ hl2 hn3 (by omega) hf2 Hres Hend.out (by rw [Ha.out v, and_nat v (mineS who) (by omega) (Nat.lt_trans (mineS_lt ⟨who, hw8⟩) (by decide))])
                      case measure => simp [intOf]; omega
                  · have Hend := Lib.hid (show takeF (litOf x dir) (s.data.toList.drop (k2 + 1)) 0 = (v, s.data.toList.drop k3) by rw [← Ht.out, takeF_end _ s k3 v (by omega), List.drop_of_length_le (by simp; omega)])
                    clear Ht
                    go_wp2
                    go_round
                    case rel => exact act2_step s (mineS who) dir _ k2 k3 f v x _ hl2 hn3 (by omega) hf2 Hres Hend.out (by rw [Ha.out v, and_nat v (mineS who) (by omega) (Nat.lt_trans (mineS_lt ⟨who, hw8⟩) (by decide))])
                    case measure => simp [intOf]; omega
              by_cases c61 : s[k2] = 61
              · have Hc := Lib.hid c61
                have t43 : (((s[k2].toNat : Int) == 43) : Bool) = false := u8_false _ _ c43
                have t45 : (((s[k2].toNat : Int) == 45) : Bool) = false := u8_false _ _ c45
                have t61 : (((s[k2].toNat : Int) == 61) : Bool) = true := u8_true _ _ c61
                have Ha := Lib.hid (show ∀ v : Nat, applyS (mineS who) v s[k2] x = some _ from fun v => by unfold applyS; rw [if_neg c43, if_neg c45, if_pos c61])
                clear c61 c43 c45
                go_wp2_with (go_at_call 31; refine (at_sign s[k2] 61 2 Hc.out rfl _).mono ?_; rintro e w' ⟨rfl, rfl⟩)
                go_loop [9, 12] (fun iv bv => litRel s (mineS who) x dir (takeF (litOf x dir) (s.data.toList.drop (k2 + 1)) 0) (k2 + 1) iv bv) (fun iv _ => s.size - (intOf iv).toNat)
                case atStart => exact ⟨k2 + 1, 0, Nat.le_refl _, by omega, by go_num, by decide, by rw [Nat.zero_and]; rfl, rfl⟩
                case round =>
                  obtain ⟨k3, v, hn3, hk3, rfl, hv, rfl, ht⟩ := hrel
                  have Ht := Lib.hid ht
                  clear ht
                  by_cases hl3 : k3 < s.size
                  · cases hq : litOf x dir s[k3] with
                    | some qq =>
                      have Hq := Lib.hid hq
                      clear hq
                      go_wp2_with (first | (go_at_call 31; (with_reducible refine (at_lit s[k3] qq x dir Hq.out _).mono ?_); rintro e w' ⟨rfl, rfl⟩) | (go_at_call 32; refine (bits_at s[k3] who qq _ x dir hw8 rfl Hq.out _).mono ?_; rintro e w' ⟨rfl, rfl⟩))
                      go_round
                      case rel => exact lit_step s (mineS who) x dir _ (k2 + 1) k3 v qq hn3 hl3 hv Hq.out Ht
                      case measure => simp [intOf]; omega
                    | none =>
                      have Hq := Lib.hid hq
                      clear hq
                      have Hend := Lib.hid (show takeF (litOf x dir) (s.data.toList.drop (k2 + 1)) 0 = (v, s.data.toList.drop k3) by rw [← Ht.out, takeF_stop _ s k3 v hl3 Hq.out])
                      clear Ht
                      go_wp2_with (first | (go_at_call 31; (with_reducible refine (at_lit_no s[k3] x dir Hq.out _).mono ?_); rintro e w' ⟨rfl, rfl⟩) | (go_at_call 33; refine (mine_at who _ hw8 rfl _).mono ?_; rintro e w' ⟨rfl, rfl⟩))
                      go_round
                      case rel => exact act2_step s (mineS who) dir _ k2 k3 f v x _ hl2 hn3 (by omega) hf2 Hres Hend.out (by rw [Ha.out v, and_nat v (mineS who) (by omega) (Nat.lt_trans (mineS_lt ⟨who, hw8⟩) (by decide))])
                      case measure => simp [intOf]; omega
                  · have Hend := Lib.hid (show takeF (litOf x dir) (s.data.toList.drop (k2 + 1)) 0 = (v, s.data.toList.drop k3) by rw [← Ht.out, takeF_end _ s k3 v (by omega), List.drop_of_length_le (by simp; omega)])
                    clear Ht
                    go_wp2_with (go_at_call 33; refine (mine_at who _ hw8 rfl _).mono ?_; rintro e w' ⟨rfl, rfl⟩)
                    go_round
                    case rel => exact act2_step s (mineS who) dir _ k2 k3 f v x _ hl2 hn3 (by omega) hf2 Hres Hend.out (by rw [Ha.out v, and_nat v (mineS who) (by omega) (Nat.lt_trans (mineS_lt ⟨who, hw8⟩) (by decide))])
                    case measure => simp [intOf]; omega
              have Hs := Lib.hid (act2_wrong s _ dir _ k2 f x hl2 hf2 Hres c43 c45 c61)
              have Hc := Lib.hid (⟨c43, c45, c61⟩ : ¬ s[k2] = 43 ∧ ¬ s[k2] = 45 ∧ ¬ s[k2] = 61)
              clear c43 c45 c61 Hres
              go_wp2_with (go_at_call 31; refine (at_sign_no s[k2] Hc.out.1 Hc.out.2.1 Hc.out.2.2 _).mono ?_; rintro e w' ⟨rfl, rfl⟩)
              go_ret2
              exact ⟨ret_val (by rw [Hs.out]; rfl), by rw [HB.out]; exact hbel⟩
            · have He := Lib.hid (act2_end s _ dir _ k2 f x (by omega) Hres)
              clear Hres
              go_wp2
              go_ret2
              exact ⟨ret_val (by rw [He.out]; rfl), by rw [HB.out]; exact hbel⟩
    · have He := Lib.hid (cl_none s k who m dir (by omega) H1 H3)
      have hkz : (((k : Int) == (s.size : Int)) : Bool) = true := by rw [beq_iff_eq]; omega
      by_cases hw0 : who = 0
      · have hz : (((who : Int) == 0) : Bool) = true := by rw [beq_iff_eq]; omega
        clear hw0
        go_wp2
        go_ret2
        exact ⟨ret_val (by rw [He.out]; rfl), by rw [HB.out]; exact hbel⟩
      · have hz : (((who : Int) == 0) : Bool) = false := by rw [beq_eq_false_iff_ne]; omega
        clear hw0
        go_wp2
        go_ret2
        exact ⟨ret_val (by rw [He.out]; rfl), by rw [HB.out]; exact hbel⟩
end Go.Proofs.Ytmjjhoaplcjjcaa
