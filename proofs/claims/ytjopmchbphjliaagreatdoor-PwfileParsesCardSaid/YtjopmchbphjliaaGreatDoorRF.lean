/- Contract of the document's may. -/
import Derived.Test.YtjopmchbphjliaaGreatDoorRE
namespace Go.Proofs.YtjopmchbphjliaaGreatDoor
open Go.RowKit Go.Shelf

theorem rplace_at (s : ByteArray) (hs : s.size ≤ 1048576) (b : Bool) (hb : placeB s.data.toList = b) (w : World) :
    Calls Tryz.prog 46 #[.string s] w fun e w' => e = .returned (.bool b) ∧ Below w.heap.size w w' := by subst hb; exact rplace_any s hs w
theorem rName_at (s : ByteArray) (hs : s.size ≤ maxLen) (b : Bool) (hb : nameU s.data.toList = b) (w : World) :
    Calls Tryz.prog 44 #[.string s] w fun e w' => e = .returned (.bool b) ∧ w = w' := by subst hb; exact rName_any s hs w
theorem rpass_at (s : ByteArray) (b : Bool) (hb : Mx.rightS s.data.toList = b) (w : World) :
    Calls Tryz.prog 45 #[.string s] w fun e w' => e = .returned (.bool b) ∧ w = w' := by subst hb; exact Mx.refRight_any s w
set_option maxHeartbeats 3200000 in
theorem rmay_any (u : Usr) (hok : OkU u) (hh : u.home.size ≤ 1048576) (hs : u.shell.size ≤ 1048576) (w : World) :
    Calls Tryz.prog 25 #[u.val] w fun e w' => e = .returned (.bool (rightU u)) ∧ Below w.heap.size w w' := by
  obtain ⟨hn, _, _, _, _, _⟩ := hok
  have hb1 : Below w.heap.size w (w.alloc (boxU u)) := (Below.refl _ w).alloc (Nat.le_refl _) _
  have hu1 : UBlk (w.alloc (boxU u)) w.heap.size u := Blk.new w 29 _
  obtain ⟨a, ha⟩ : ∃ a, nameU u.name.data.toList = a := ⟨_, rfl⟩
  obtain ⟨b, hb⟩ : ∃ b, Mx.rightS u.pass.data.toList = b := ⟨_, rfl⟩
  obtain ⟨c, hc⟩ : ∃ c, placeB u.home.data.toList = c := ⟨_, rfl⟩
  obtain ⟨d, hd⟩ : ∃ d, placeB u.shell.data.toList = d := ⟨_, rfl⟩
  have Hr := Lib.hid (show rightU u = (a && (b && (idB u.id && (idB u.grp && (c && d))))) by unfold rightU; rw [ha, hb, hc, hd])
  have c1 := rName_at u.name hn a ha
  have c2 := rpass_at u.pass b hb
  have c3 := rplace_at u.home hh c hc
  have c4 := rplace_at u.shell hs d hd
  have C1 := Lib.hid c1
  have C2 := Lib.hid c2
  have C3 := Lib.hid c3
  have C4 := Lib.hid c4
  clear ha hb hc hd c1 c2 c3 c4
  unfold boxU at hb1 hu1
  unfold Usr.val
  go_enter Tryz.func25, Tryz.ntmps25
  go_wp2_with fail
  generalize w.alloc (.cells #[.string u.name, .string u.pass, .int .i64 u.id, .int .i64 u.grp, .string u.home, .string u.shell] 29) = w1 at hb1 hu1 ⊢
  refine (C1.out _).mono ?_
  rintro e w' ⟨rfl, rfl⟩
  have q1 := hu1.at
  obtain ⟨d0, d1, d2, d3, d4, d5⟩ := q1
  go_wp2_with fail
  refine (C2.out _).mono ?_
  rintro e w' ⟨rfl, rfl⟩
  go_wp2_with fail
  refine (C3.out _).mono ?_
  rintro e w2 ⟨rfl, hz⟩
  have hu2 : UBlk w2 w.heap.size u := Blk.below hu1 hz hu1.at.lt
  have hb2 := next hb1 hb1.size hz
  clear d0 d1 d2 d3 d4 d5 hu1 hb1 hz
  obtain ⟨d0, d1, d2, d3, d4, d5⟩ := hu2.at
  go_wp2_with fail
  refine (C4.out _).mono ?_
  rintro e w3 ⟨rfl, hz⟩
  have hu3 : UBlk w3 w.heap.size u := Blk.below hu2 hz hu2.at.lt
  have hb3 := next hb2 hb2.size hz
  clear d0 d1 d2 d3 d4 d5 hu2 hb2 hz C1 C2 C3 C4
  obtain ⟨d0, d1, d2, d3, d4, d5⟩ := hu3.at
  by_cases h1 : 0 ≤ u.id
  · by_cases h2 : u.id ≤ 65535
    · have e1 : idB u.id = true := by unfold idB; rw [decide_eq_true h1, decide_eq_true h2]; rfl
      by_cases h3 : 0 ≤ u.grp
      · by_cases h4 : u.grp ≤ 65535
        · have e2 : idB u.grp = true := by unfold idB; rw [decide_eq_true h3, decide_eq_true h4]; rfl
          have Hf := Lib.hid (Hr.out.trans (by rw [e1, e2]; rfl : _ = (a && (b && (c && d)))))
          clear e1 e2
          cases a <;> cases b <;> cases c <;> cases d <;> (go_wp2; go_ret; exact ⟨ret_bool Hf.out.symm, hb3⟩)
        · have e2 : idB u.grp = false := by unfold idB; rw [decide_eq_true h3, decide_eq_false h4]; rfl
          have b4 : decide (u.grp ≤ 65535) = false := decide_eq_false h4
          have Hf := Lib.hid (Hr.out.trans (by rw [e1, e2]; cases a <;> cases b <;> rfl : _ = false))
          clear e1 e2
          cases a <;> cases b <;> cases c <;> cases d <;> (go_wp2; go_ret; exact ⟨ret_bool Hf.out.symm, hb3⟩)
      · have e2 : idB u.grp = false := by unfold idB; rw [decide_eq_false h3]; rfl
        have Hf := Lib.hid (Hr.out.trans (by rw [e1, e2]; cases a <;> cases b <;> rfl : _ = false))
        clear e1 e2
        cases a <;> cases b <;> cases c <;> cases d <;> (go_wp2; go_ret; exact ⟨ret_bool Hf.out.symm, hb3⟩)
    · have e1 : idB u.id = false := by unfold idB; rw [decide_eq_true h1, decide_eq_false h2]; rfl
      have Hf := Lib.hid (Hr.out.trans (by rw [e1]; cases a <;> cases b <;> rfl : _ = false))
      clear e1
      cases a <;> cases b <;> cases c <;> cases d <;> (go_wp2; go_ret; exact ⟨ret_bool Hf.out.symm, hb3⟩)
  · have e1 : idB u.id = false := by unfold idB; rw [decide_eq_false h1]; rfl
    have Hf := Lib.hid (Hr.out.trans (by rw [e1]; cases a <;> cases b <;> rfl : _ = false))
    clear e1
    cases a <;> cases b <;> cases c <;> cases d <;> (go_wp2; go_ret; exact ⟨ret_bool Hf.out.symm, hb3⟩)
end Go.Proofs.YtjopmchbphjliaaGreatDoor
