/- Contract of shown. -/
import Derived.Test.YtiiomflffnmhnaaDoorW8
namespace Go.Proofs.YtiiomflffnmhnaaDoor
open Go.RowKit Go.Shelf

theorem shown_split : splE [47, 97, 47, 47, 46, 47, 98, 47] = 0 ∧ splN [47, 97, 47, 47, 46, 47, 98, 47] = [[97], [98]] ∧ splAbs [47, 97, 47, 47, 46, 47, 98, 47] = true ∧ splDir [47, 97, 47, 47, 46, 47, 98, 47] = true := by decide +kernel
theorem shown_base : baseV [47, 97, 47, 98, 47] = .tuple #[.string ⟨#[47, 97, 47]⟩, .string ⟨#[98]⟩] := by
  have : baseS [47, 97, 47, 98, 47] = ([47, 97, 47], [98]) := by decide +kernel
  unfold baseV; rw [this]
theorem shown_join : strV (joinS [97, 47] [98]) = .string ⟨#[97, 47, 98]⟩ := by
  have : joinS [97, 47] [98] = [97, 47, 98] := by decide +kernel
  rw [this]; rfl
theorem shown_name : nameB [120] = true := by decide +kernel
/-- Split with its results taken apart. -/
theorem split_of (s : ByteArray) (hs : s.size ≤ maxLen) (k : Nat) (ns : List (List UInt8)) (a d : Bool) (n : Nat) (hE : splE s.data.toList = k) (hN : splN s.data.toList = ns) (hn : ns.length = n) (hA : splAbs s.data.toList = a) (hD : splDir s.data.toList = d) (w : World) :
    Calls Tryd.prog 12 #[.string s] w fun e w' => ∃ p cap, e = .returned (.tuple #[.agg #[.bool a, .slice p n cap, .bool d], .int .i64 k]) ∧
      (Hid (w'.ownsRow w.heap.size 9 1 (.slice p n cap) n (ns.map strV)) ∧ Below w.heap.size w w') :=
  (split_any s hs w).mono fun e w' h => by
    obtain ⟨v, he, hr, hb⟩ := h
    obtain ⟨p, cap, rfl⟩ := row_slice hr
    rw [hN, hn] at hr he
    refine ⟨p, cap, ?_, Lib.hid hr, hb⟩
    rw [he]; unfold splitV; rw [hE, hA, hD]
set_option maxHeartbeats 2000000 in
theorem shown_any (w : World) : Calls Tryd.prog 10 #[] w fun e w' => e = .returned (.bool true) ∧ Below w.heap.size w w' := by
  have h1 := fun w : World => split_of ⟨#[47, 97, 47, 47, 46, 47, 98, 47]⟩ (by decide) 0 [[97], [98]] true true 2 shown_split.1 shown_split.2.1 rfl shown_split.2.2.1 shown_split.2.2.2 w
  have h2 := fun w : World => base_any ⟨#[47, 97, 47, 98, 47]⟩ (by decide) w
  have h3 := fun w : World => join_any ⟨#[97, 47]⟩ ⟨#[98]⟩ (by decide) (by decide) w
  have h4 := fun w : World => name_any ⟨#[120]⟩ w
  simp only [shown_base, shown_join, shown_name] at h2 h3 h4
  have H1 := Lib.hid h1
  have H2 := Lib.hid h2
  have H3 := Lib.hid h3
  have H4 := Lib.hid h4
  clear h1 h2 h3 h4
  go_enter Tryd.func10, Tryd.ntmps10
  go_wp2_with fail
  refine (H1.out _).mono ?_
  rintro e w1 ⟨p, cap, rfl, hr, hb⟩
  have hrd := Rd.of_row (l := [[97], [98]]) hr.out
  obtain ⟨p', cap', hv, _, _, hc⟩ := hrd
  obtain ⟨g, hp, hc1⟩ := hc 1 [98] rfl
  cases hv
  subst hp
  have hg := cell_lt hc1
  unfold strV at hc1
  have HB := hb
  clear hc hr
  go_wp2_with (first | (go_at_call 14; (with_reducible refine (H2.out _).mono ?_); rintro e w' ⟨rfl, n, rfl⟩) | (go_at_call 18; (with_reducible refine (H3.out _).mono ?_); rintro e w' ⟨rfl, rfl⟩) | (go_at_call 16; (with_reducible refine (H4.out _).mono ?_); rintro e w' ⟨rfl, rfl⟩))
  go_ret
  exact ⟨rfl, below_drewN (HB.alloc HB.size _) n⟩
end Go.Proofs.YtiiomflffnmhnaaDoor
