/- Contracts of isPlace and isRightUser. -/
import Derived.Test.YtjopmchbphjliaaGreatDoorR1
namespace Go.Proofs.YtjopmchbphjliaaGreatDoor
open Go.RowKit Go.Shelf

theorem index_mem (l : List UInt8) (x : UInt8) : (0 : Int) ≤ Lib.indexByte l x ↔ l.contains x = true := by
  induction l with
  | nil => simp [Lib.indexByte]
  | cons c r ih =>
    rw [Lib.indexByte, List.contains_cons]
    by_cases h : c = x
    · subst h; simp
    · rw [if_neg (by simpa using h)]
      have e : (x == c) = false := by simpa using fun y => h y.symm
      rw [e, Bool.false_or, ← ih]
      by_cases hi : Lib.indexByte r x = -1
      · simp [hi]
      · rw [if_neg (by simpa using hi)]
        have := Lib.indexByte_ge r x
        omega
theorem contains_at (s : ByteArray) (c : UInt8) (b : Bool) (hb : s.data.toList.contains c = b) (w : World) :
    Calls Tryz.prog 60 #[.string s, .string ⟨#[c]⟩] w fun e w' => e = .returned (.bool b) ∧ w = w' := by
  refine (Tryz.strings_Contains_one s c w).mono ?_
  rintro e w' ⟨rfl, rfl⟩
  refine ⟨ret_bool ?_, rfl⟩
  rw [← hb, Bool.eq_iff_iff, decide_eq_true_iff]
  exact index_mem _ _
theorem split_place (s : ByteArray) (hs : s.size ≤ maxLen) (a d : Bool) (k : Nat) (ha : splAbs s.data.toList = a) (hd : splDir s.data.toList = d) (hk : splE s.data.toList = k) (w : World) :
    Calls Tryz.prog 59 #[.string s] w fun e w' => ∃ p n cap, e = .returned (.tuple #[.agg #[.bool a, .slice p n cap, .bool d], .int .i64 k]) ∧ Below w.heap.size w w' := by
  subst ha hd hk
  refine (split_any s hs w).mono ?_
  rintro e w' ⟨v, rfl, hrow, hb⟩
  obtain ⟨p, cap, rfl⟩ := row_slice hrow
  exact ⟨p, _, cap, rfl, hb⟩
set_option maxHeartbeats 1600000 in
theorem place_any (s : ByteArray) (hs : s.size ≤ maxLen) (w : World) :
    Calls Tryz.prog 42 #[.string s] w fun e w' => e = .returned (.bool (placeB s.data.toList)) ∧ Below w.heap.size w w' := by
  obtain ⟨k, hk⟩ : ∃ k, splE s.data.toList = k := ⟨_, rfl⟩
  obtain ⟨d, hd⟩ : ∃ d, splDir s.data.toList = d := ⟨_, rfl⟩
  obtain ⟨c, hc⟩ : ∃ c, s.data.toList.contains 58 = c := ⟨_, rfl⟩
  have Hc := Lib.hid hc
  by_cases h0 : k = 0
  · subst h0
    cases ha : absP s.data.toList
    · have hsp := split_place s hs false d 0 (by unfold splAbs; rw [if_pos hk, ha]) hd hk w
      have Hr := Lib.hid (show placeB s.data.toList = false by unfold placeB; rw [ha]; simp)
      clear hk hd hc ha
      go_enter Tryz.func42, Tryz.ntmps42
      go_wp2_with (go_at_call 59; refine hsp.mono ?_; rintro e w1 ⟨p, n, cap, rfl, hb⟩)
      go_ret
      exact ⟨ret_bool Hr.out.symm, hb.alloc hb.size _⟩
    · have hsp := split_place s hs true d 0 (by unfold splAbs; rw [if_pos hk, ha]) hd hk w
      have Hr := Lib.hid (show placeB s.data.toList = !c by unfold placeB; rw [ha, hk, hc]; simp)
      clear hk hd hc ha
      go_enter Tryz.func42, Tryz.ntmps42
      go_wp2_with (first | (go_at_call 59; refine hsp.mono ?_; rintro e w1 ⟨p, n, cap, rfl, hb⟩) | (go_at_call 60; refine (contains_at s 58 c Hc.out _).mono ?_; rintro e w2 ⟨rfl, rfl⟩))
      go_ret
      exact ⟨ret_bool Hr.out.symm, hb.alloc hb.size _⟩
  · have hsp := split_place s hs false d k (by unfold splAbs; rw [if_neg (by omega)]) hd hk w
    have Hr := Lib.hid (show placeB s.data.toList = false by unfold placeB; rw [decide_eq_false (by omega)]; rfl)
    have hk0 : (((k : Int) == 0) : Bool) = false := by rw [beq_eq_false_iff_ne]; omega
    clear hk hd hc
    go_enter Tryz.func42, Tryz.ntmps42
    go_wp2_with (go_at_call 59; refine hsp.mono ?_; rintro e w1 ⟨p, n, cap, rfl, hb⟩)
    go_ret
    exact ⟨ret_bool Hr.out.symm, hb.alloc hb.size _⟩
theorem place_at (s : ByteArray) (hs : s.size ≤ maxLen) (b : Bool) (hb : placeB s.data.toList = b) (w : World) :
    Calls Tryz.prog 42 #[.string s] w fun e w' => e = .returned (.bool b) ∧ Below w.heap.size w w' := by subst hb; exact place_any s hs w
theorem name_at (s : ByteArray) (hs : s.size ≤ maxLen) (b : Bool) (hb : nameU s.data.toList = b) (w : World) :
    Calls Tryz.prog 39 #[.string s] w fun e w' => e = .returned (.bool b) ∧ w = w' := by subst hb; exact userName_any s hs w
theorem pass_at (s : ByteArray) (b : Bool) (hb : Mx.rightS s.data.toList = b) (w : World) :
    Calls Tryz.prog 40 #[.string s] w fun e w' => e = .returned (.bool b) ∧ w = w' := by subst hb; exact Mx.right_any s w
theorem id_at (n : Int) (b : Bool) (hb : idB n = b) (w : World) :
    Calls Tryz.prog 41 #[.int .i64 n] w fun e w' => e = .returned (.bool b) ∧ w = w' := by subst hb; exact isID_any n w
theorem next {a b c : World} {n : Nat} (h : Below n a b) (hn : n ≤ b.heap.size) (g : Below b.heap.size b c) : Below n a c := h.trans (g.mono hn)
/-- a user put into a box. -/
def boxU (u : Usr) : Obj := .cells #[.string u.name, .string u.pass, .int .i64 u.id, .int .i64 u.grp, .string u.home, .string u.shell] 29
set_option maxHeartbeats 3200000 in
theorem rightUser_any (u : Usr) (hok : OkU u) (w : World) :
    Calls Tryz.prog 23 #[u.val] w fun e w' => e = .returned (.bool (rightU u)) ∧ Below w.heap.size w w' := by
  obtain ⟨hn, _, hh, hs, _, _⟩ := hok
  have hb1 : Below w.heap.size w (w.alloc (boxU u)) := (Below.refl _ w).alloc (Nat.le_refl _) _
  have hu1 : UBlk (w.alloc (boxU u)) w.heap.size u := Blk.new w 29 _
  unfold Usr.val
  cases h1 : nameU u.name.data.toList
  · have Hr := Lib.hid (show rightU u = false by unfold rightU; rw [h1]; rfl)
    have H1 := Lib.hid h1
    clear h1
    go_enter Tryz.func23, Tryz.ntmps23
    go_wp2_with (first | (go_at_call 39; (with_reducible refine (name_at u.name hn false H1.out _).mono ?_); rintro e w' ⟨rfl, rfl⟩))
    go_ret
    exact ⟨ret_bool Hr.out.symm, hb1⟩
  · have H1 := Lib.hid h1
    clear h1
    cases h2 : Mx.rightS u.pass.data.toList
    · have Hr := Lib.hid (show rightU u = false by unfold rightU; rw [H1.out, h2]; rfl)
      have H2 := Lib.hid h2
      clear h2
      go_enter Tryz.func23, Tryz.ntmps23
      go_wp2_with (first | (go_at_call 39; (with_reducible refine (name_at u.name hn true H1.out _).mono ?_); rintro e w' ⟨rfl, rfl⟩) | (go_at_call 40; (with_reducible refine (pass_at u.pass false H2.out _).mono ?_); rintro e w' ⟨rfl, rfl⟩))
      go_ret
      exact ⟨ret_bool Hr.out.symm, hb1⟩
    · have H2 := Lib.hid h2
      clear h2
      cases h3 : idB u.id
      · have Hr := Lib.hid (show rightU u = false by unfold rightU; rw [H1.out, H2.out, h3]; rfl)
        have H3 := Lib.hid h3
        clear h3
        go_enter Tryz.func23, Tryz.ntmps23
        go_wp2_with (first | (go_at_call 39; (with_reducible refine (name_at u.name hn true H1.out _).mono ?_); rintro e w' ⟨rfl, rfl⟩) | (go_at_call 40; (with_reducible refine (pass_at u.pass true H2.out _).mono ?_); rintro e w' ⟨rfl, rfl⟩) | (go_at_call 41; (with_reducible refine (id_at u.id false H3.out _).mono ?_); rintro e w' ⟨rfl, rfl⟩))
        go_ret
        exact ⟨ret_bool Hr.out.symm, hb1⟩
      · have H3 := Lib.hid h3
        clear h3
        cases h4 : idB u.grp
        · have Hr := Lib.hid (show rightU u = false by unfold rightU; rw [H1.out, H2.out, H3.out, h4]; rfl)
          have H4 := Lib.hid h4
          clear h4
          go_enter Tryz.func23, Tryz.ntmps23
          go_wp2_with (first | (go_at_call 39; (with_reducible refine (name_at u.name hn true H1.out _).mono ?_); rintro e w' ⟨rfl, rfl⟩) | (go_at_call 40; (with_reducible refine (pass_at u.pass true H2.out _).mono ?_); rintro e w' ⟨rfl, rfl⟩) | (go_at_call 41; (with_reducible refine (id_at u.id true H3.out _).mono ?_); rintro e w' ⟨rfl, rfl⟩) | (go_at_call 41; (with_reducible refine (id_at u.grp false H4.out _).mono ?_); rintro e w' ⟨rfl, rfl⟩))
          go_ret
          exact ⟨ret_bool Hr.out.symm, hb1⟩
        · have H4 := Lib.hid h4
          clear h4
          cases h5 : placeB u.home.data.toList
          · have Hr := Lib.hid (show rightU u = false by unfold rightU; rw [H1.out, H2.out, H3.out, H4.out, h5]; rfl)
            have H5 := Lib.hid h5
            clear h5
            go_enter Tryz.func23, Tryz.ntmps23
            go_wp2_with (first | (go_at_call 39; (with_reducible refine (name_at u.name hn true H1.out _).mono ?_); rintro e w' ⟨rfl, rfl⟩) | (go_at_call 40; (with_reducible refine (pass_at u.pass true H2.out _).mono ?_); rintro e w' ⟨rfl, rfl⟩) | (go_at_call 41; (with_reducible refine (id_at u.id true H3.out _).mono ?_); rintro e w' ⟨rfl, rfl⟩) | (go_at_call 41; (with_reducible refine (id_at u.grp true H4.out _).mono ?_); rintro e w' ⟨rfl, rfl⟩) | (go_at_call 42; (with_reducible refine (place_at u.home hh false H5.out _).mono ?_); rintro e w1 ⟨rfl, hb2⟩; have hu2 : UBlk w1 w.heap.size u := Blk.below hu1 hb2 (by simp); obtain ⟨c0, c1, c2, c3, c4, c5⟩ := hu2.at))
            go_ret
            exact ⟨ret_bool Hr.out.symm, next hb1 (by simp) hb2⟩
          · have Hr := Lib.hid (show rightU u = placeB u.shell.data.toList by unfold rightU; rw [H1.out, H2.out, H3.out, H4.out, h5]; rfl)
            have H5 := Lib.hid h5
            clear h5
            go_enter Tryz.func23, Tryz.ntmps23
            go_wp2_with (first | (go_at_call 39; (with_reducible refine (name_at u.name hn true H1.out _).mono ?_); rintro e w' ⟨rfl, rfl⟩) | (go_at_call 40; (with_reducible refine (pass_at u.pass true H2.out _).mono ?_); rintro e w' ⟨rfl, rfl⟩) | (go_at_call 41; (with_reducible refine (id_at u.id true H3.out _).mono ?_); rintro e w' ⟨rfl, rfl⟩) | (go_at_call 41; (with_reducible refine (id_at u.grp true H4.out _).mono ?_); rintro e w' ⟨rfl, rfl⟩) | (go_at_call 42; (with_reducible refine (place_at u.home hh true H5.out _).mono ?_); rintro e w1 ⟨rfl, hb2⟩; have hu2 : UBlk w1 w.heap.size u := Blk.below hu1 hb2 (by simp); obtain ⟨c0, c1, c2, c3, c4, c5⟩ := hu2.at) | (go_at_call 42; (with_reducible refine (place_any u.shell hs _).mono ?_); rintro e w2 ⟨rfl, hb3⟩))
            go_ret
            exact ⟨ret_bool Hr.out.symm, next (next hb1 (by simp) hb2) (hb1.trans (hb2.mono (by simp))).size hb3⟩
end Go.Proofs.YtjopmchbphjliaaGreatDoor
