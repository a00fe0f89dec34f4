/- The walks of the laws PathNames and PathOne. -/
import Derived.Test.YtiiomflffnmhnaaDoorW9
import Derived.Test.YtiiomflffnmhnaaDoorS3
namespace Go.Proofs.YtiiomflffnmhnaaDoor
open Go.RowKit Go.Shelf

set_option maxHeartbeats 2000000 in
theorem names_walk (s t : ByteArray) (hs : s.size ≤ 140737488351232) (ht : t.size ≤ 140737488351232) (w : World) :
    Calls Tryd.prog 4 #[.string s, .string t] w fun e w' => e = .returned (.bool true) ∧ Below w.heap.size w w' := by
  obtain ⟨b1, b2, hb⟩ : ∃ b1 b2 : ByteArray, baseV s.data.toList = .tuple #[.string b1, .string b2] := ⟨_, _, rfl⟩
  obtain ⟨j, hj⟩ : ∃ j : ByteArray, strV (joinS s.data.toList t.data.toList) = .string j := ⟨_, rfl⟩
  obtain ⟨nb, hn⟩ : ∃ nb, nameB s.data.toList = nb := ⟨_, rfl⟩
  have Hb := Lib.hid hb
  have Hj := Lib.hid hj
  have Hn := Lib.hid hn
  clear hb hj hn
  have e1 : (b1.toList == b1.toList) = true := by simp
  have e2 : (b2.toList == b2.toList) = true := by simp
  have e3 : (j.toList == j.toList) = true := by simp
  have hs' : s.size < 4611686018427387904 := by omega
  cases nb
  all_goals
    go_enter Tryd.func4, Tryd.ntmps4
    go_wp2_with (first | (go_at_call 10; refine (shown_any _).mono ?_; rintro e w' ⟨rfl, hb0⟩) | (go_at_call 14; refine (base_any s hs' _).mono ?_; rintro e w' ⟨rfl, n1, rfl⟩; rw [Hb.out]) | (go_at_call 15; refine (refBase_any s hs' _).mono ?_; rintro e w' ⟨rfl, n2, rfl⟩; rw [Hb.out]) | (go_at_call 16; refine (name_any s _).mono ?_; rintro e w' ⟨rfl, rfl⟩; rw [Hn.out]) | (go_at_call 17; refine (refName_any s _).mono ?_; rintro e w' ⟨rfl, rfl⟩; rw [Hn.out]) | (go_at_call 18; refine (join_any s t hs ht _).mono ?_; rintro e w' ⟨rfl, rfl⟩; rw [Hj.out]) | (go_at_call 19; refine (refJoin_any s t hs ht _).mono ?_; rintro e w' ⟨rfl, rfl⟩; rw [Hj.out]))
    go_ret
    exact ⟨rfl, below_drewN hb0 _⟩

/-- the first name, in the world that Split leaves. -/
theorem first_cell {w1 : World} {base : Nat} {p : Option Addr} {n cap : Nat} {ns : List (List UInt8)} (hr : Hid (w1.ownsRow base 9 1 (.slice p n cap) n (ns.map strV))) (hn : ns.length = n) (j : Nat) (x : List UInt8) (hx : ns[j]? = some x) :
    ∃ g, p = some ⟨g, 0, none⟩ ∧ g < w1.heap.size ∧ w1.cell? ⟨g, j, none⟩ = some (.string ⟨x.toArray⟩) := by
  subst hn
  obtain ⟨p', cap', hv, _, _, hc⟩ := Rd.of_row hr.out
  obtain ⟨g, hp, hc1⟩ := hc j x hx
  cases hv
  exact ⟨g, hp, cell_lt hc1, hc1⟩
theorem nat_ne (k m : Nat) (h : k ≠ m) : (((k : Int) == (m : Int)) : Bool) = false := by rw [beq_eq_false_iff_ne]; omega
set_option maxHeartbeats 2000000 in
theorem one_walk (s : ByteArray) (hs : s.size ≤ 140737488351232) (w : World) :
    Calls Tryd.prog 8 #[.string s] w fun e w' => e = .returned (.bool true) ∧ Below w.heap.size w w' := by
  have hm : s.size ≤ maxLen := by unfold maxLen; omega
  obtain ⟨k, hk⟩ : ∃ k, splE s.data.toList = k := ⟨_, rfl⟩
  obtain ⟨ns, hns⟩ : ∃ ns, splN s.data.toList = ns := ⟨_, rfl⟩
  obtain ⟨n, hn⟩ : ∃ n, ns.length = n := ⟨_, rfl⟩
  obtain ⟨a, ha⟩ : ∃ a, splAbs s.data.toList = a := ⟨_, rfl⟩
  obtain ⟨d, hd⟩ : ∃ d, splDir s.data.toList = d := ⟨_, rfl⟩
  obtain ⟨nb, hnb⟩ : ∃ nb, nameB s.data.toList = nb := ⟨_, rfl⟩
  have H1 := Lib.hid (fun w : World => split_of s hm k ns a d n hk hns hn ha hd w)
  have H2 := Lib.hid (fun w : World => name_any s w)
  have Hnb := Lib.hid hnb
  by_cases hk0 : k = 0
  · subst hk0
    by_cases hn1 : n = 1
    · subst hn1
      obtain ⟨x, rfl⟩ : ∃ x, ns = [x] := List.length_eq_one_iff.1 hn
      have Hn := Lib.hid hn
      by_cases hx : x = s.data.toList
      · subst hx
        cases a
        · cases d
          · have hb : nb = true := by rw [← hnb]; exact name_back hk hns hd
            subst hb
            clear hk hns hn ha hd hnb
            go_enter Tryd.func8, Tryd.ntmps8
            go_wp2_with (first | (go_at_call 10; refine (shown_any _).mono ?_; rintro e w' ⟨rfl, hb0⟩) | (go_at_call 12; refine (H1.out _).mono ?_; rintro e w1 ⟨p, cap, rfl, hr, hb1⟩; obtain ⟨g, rfl, hg, hc⟩ := first_cell hr Hn.out 0 _ rfl; rw [Lib.mk_data] at hc) | (go_at_call 16; refine (H2.out _).mono ?_; rintro e w' ⟨rfl, rfl⟩; rw [Hnb.out]))
            go_ret
            exact ⟨rfl, (hb0.trans (hb1.mono hb0.size)).alloc (Nat.le_trans hb0.size hb1.size) _⟩
          ·
            have hb : nb = false := by
              cases nb
              · rfl
              · obtain ⟨f1, f2, f3, f4⟩ := name_fwd hnb
                rw [hd] at f4; cases f4
            subst hb
            clear hk hns hn ha hd hnb
            go_enter Tryd.func8, Tryd.ntmps8
            go_wp2_with (first | (go_at_call 10; refine (shown_any _).mono ?_; rintro e w' ⟨rfl, hb0⟩) | (go_at_call 12; refine (H1.out _).mono ?_; rintro e w1 ⟨p, cap, rfl, hr, hb1⟩; obtain ⟨g, rfl, hg, hc⟩ := first_cell hr Hn.out 0 _ rfl; rw [Lib.mk_data] at hc) | (go_at_call 16; refine (H2.out _).mono ?_; rintro e w' ⟨rfl, rfl⟩; rw [Hnb.out]))
            go_ret
            exact ⟨rfl, (hb0.trans (hb1.mono hb0.size)).alloc (Nat.le_trans hb0.size hb1.size) _⟩
        ·
          have hb : nb = false := by
            cases nb
            · rfl
            · obtain ⟨f1, f2, f3, f4⟩ := name_fwd hnb
              rw [ha] at f3; cases f3
          subst hb
          clear hk hns hn ha hd hnb
          go_enter Tryd.func8, Tryd.ntmps8
          go_wp2_with (first | (go_at_call 10; refine (shown_any _).mono ?_; rintro e w' ⟨rfl, hb0⟩) | (go_at_call 12; refine (H1.out _).mono ?_; rintro e w1 ⟨p, cap, rfl, hr, hb1⟩; obtain ⟨g, rfl, hg, hc⟩ := first_cell hr Hn.out 0 _ rfl; rw [Lib.mk_data] at hc) | (go_at_call 16; refine (H2.out _).mono ?_; rintro e w' ⟨rfl, rfl⟩; rw [Hnb.out]))
          go_ret
          exact ⟨rfl, (hb0.trans (hb1.mono hb0.size)).alloc (Nat.le_trans hb0.size hb1.size) _⟩
      ·
        have hb : nb = false := by
          cases nb
          · rfl
          · obtain ⟨f1, f2, f3, f4⟩ := name_fwd hnb
            rw [hns] at f2; exact absurd (List.cons.inj f2).1 hx
        subst hb
        have hxb : (x == s.toList) = false := by rw [ByteArray.toList_eq]; exact beq_eq_false_iff_ne.2 hx
        clear hx
        clear hk hns hn ha hd hnb
        go_enter Tryd.func8, Tryd.ntmps8
        go_wp2_with (first | (go_at_call 10; refine (shown_any _).mono ?_; rintro e w' ⟨rfl, hb0⟩) | (go_at_call 12; refine (H1.out _).mono ?_; rintro e w1 ⟨p, cap, rfl, hr, hb1⟩; obtain ⟨g, rfl, hg, hc⟩ := first_cell hr Hn.out 0 _ rfl) | (go_at_call 16; refine (H2.out _).mono ?_; rintro e w' ⟨rfl, rfl⟩; rw [Hnb.out]))
        go_ret
        exact ⟨rfl, (hb0.trans (hb1.mono hb0.size)).alloc (Nat.le_trans hb0.size hb1.size) _⟩
    ·
      have hb : nb = false := by
        cases nb
        · rfl
        · obtain ⟨f1, f2, f3, f4⟩ := name_fwd hnb
          rw [hns] at f2; rw [f2] at hn; exact absurd hn.symm hn1
      subst hb
      have hnb1 := nat_ne n 1 hn1
      clear hk hns hn ha hd hnb
      go_enter Tryd.func8, Tryd.ntmps8
      go_wp2_with (first | (go_at_call 10; refine (shown_any _).mono ?_; rintro e w' ⟨rfl, hb0⟩) | (go_at_call 12; refine (H1.out _).mono ?_; rintro e w1 ⟨p, cap, rfl, hr, hb1⟩; skip) | (go_at_call 16; refine (H2.out _).mono ?_; rintro e w' ⟨rfl, rfl⟩; rw [Hnb.out]))
      go_ret
      exact ⟨rfl, (hb0.trans (hb1.mono hb0.size)).alloc (Nat.le_trans hb0.size hb1.size) _⟩
  ·
    have hb : nb = false := by
      cases nb
      · rfl
      · obtain ⟨f1, f2, f3, f4⟩ := name_fwd hnb
        rw [hk] at f1; exact absurd f1 hk0
    subst hb
    have hkb := nat_ne k 0 hk0
    clear hk hns hn ha hd hnb
    go_enter Tryd.func8, Tryd.ntmps8
    go_wp2_with (first | (go_at_call 10; refine (shown_any _).mono ?_; rintro e w' ⟨rfl, hb0⟩) | (go_at_call 12; refine (H1.out _).mono ?_; rintro e w1 ⟨p, cap, rfl, hr, hb1⟩; skip) | (go_at_call 16; refine (H2.out _).mono ?_; rintro e w' ⟨rfl, rfl⟩; rw [Hnb.out]))
    go_ret
    exact ⟨rfl, (hb0.trans (hb1.mono hb0.size)).alloc (Nat.le_trans hb0.size hb1.size) _⟩
end Go.Proofs.YtiiomflffnmhnaaDoor
