/- Contracts of the document's line and Print. -/
import Derived.Test.YtjopmchbphjliaaGreatDoorRG
import Derived.Test.YtjopmchbphjliaaGreatDoorRH
namespace Go.Proofs.YtjopmchbphjliaaGreatDoor
open Go.RowKit Go.Shelf

def coreB (u : Usr) : ByteArray := ⟨(coreS u).toArray⟩
theorem rdig_at (n : Int) (h : idB n = true) (t : ByteArray) (ht : (⟨(Lib.itoa n).toArray⟩ : ByteArray) = t) (w : World) :
    Calls Tryz.prog 50 #[.int .i64 n] w fun e w' => e = .returned (.string t) ∧ Below w.heap.size w w' := by
  obtain ⟨h0, h1⟩ := id_range h
  have hc := rdigits_any n.toNat (by omega) w
  rw [← itoa_id h, ht, Int.toNat_of_nonneg h0] at hc
  exact hc
/-- a line put together by parts. -/
def catL (a b c d e f : ByteArray) : ByteArray := a ++ ⟨#[58]⟩ ++ b ++ ⟨#[58]⟩ ++ c ++ ⟨#[58]⟩ ++ d ++ ⟨#[58]⟩ ++ e ++ ⟨#[58]⟩ ++ f
theorem catL_core (u : Usr) (c d : ByteArray) (hc : (⟨(Lib.itoa u.id).toArray⟩ : ByteArray) = c) (hd : (⟨(Lib.itoa u.grp).toArray⟩ : ByteArray) = d) : catL u.name u.pass c d u.home u.shell = coreB u := by
  subst hc hd
  apply Mx.list_eq
  unfold catL coreB coreS fieldsS
  rw [join6]
  simp only [cat_data, List.append_assoc]
theorem cat_size (s t : ByteArray) : (s ++ t).size = s.size + t.size := by rw [← size_len, cat_data, List.length_append, size_len, size_len]
set_option maxRecDepth 100000 in
set_option maxHeartbeats 3200000 in
theorem rline_any (u : Usr) (hr : rightU u = true) (w : World) :
    Calls Tryz.prog 29 #[u.val] w fun e w' => e = .returned (.string (coreB u)) ∧ Below w.heap.size w w' := by
  obtain ⟨p1, p2, p3, p4, p5, p6⟩ := right_parts hr
  have z1 := name_len p1
  have z2 := pass_len p2
  have z3 := itoa_len p3
  have z4 := itoa_len p4
  have z5 := place_len p5
  have z6 := place_len p6
  obtain ⟨c, hc⟩ : ∃ c, (⟨(Lib.itoa u.id).toArray⟩ : ByteArray) = c := ⟨_, rfl⟩
  obtain ⟨d, hd⟩ : ∃ d, (⟨(Lib.itoa u.grp).toArray⟩ : ByteArray) = d := ⟨_, rfl⟩
  have zc : c.size ≤ 5 := by rw [← hc]; exact z3
  have zd : d.size ≤ 5 := by rw [← hd]; exact z4
  rw [size_len] at z1 z2 z5 z6
  have Hcore := Lib.hid (catL_core u c d hc hd)
  have C1 := Lib.hid (rdig_at u.id p3 c hc)
  have C2 := Lib.hid (rdig_at u.grp p4 d hd)
  have s1 : (u.name ++ ⟨#[58]⟩).size ≤ 9 := by rw [cat_size]; show _ + 1 ≤ 9; omega
  have s2 : (u.name ++ ⟨#[58]⟩ ++ u.pass).size ≤ 30 := by rw [cat_size]; omega
  have s3 : (u.name ++ ⟨#[58]⟩ ++ u.pass ++ ⟨#[58]⟩).size ≤ 31 := by rw [cat_size]; show _ + 1 ≤ 31; omega
  have s4 : (u.name ++ ⟨#[58]⟩ ++ u.pass ++ ⟨#[58]⟩ ++ c).size ≤ 36 := by rw [cat_size]; omega
  have s5 : (u.name ++ ⟨#[58]⟩ ++ u.pass ++ ⟨#[58]⟩ ++ c ++ ⟨#[58]⟩).size ≤ 37 := by rw [cat_size]; show _ + 1 ≤ 37; omega
  have s6 : (u.name ++ ⟨#[58]⟩ ++ u.pass ++ ⟨#[58]⟩ ++ c ++ ⟨#[58]⟩ ++ d).size ≤ 42 := by rw [cat_size]; omega
  have s7 : (u.name ++ ⟨#[58]⟩ ++ u.pass ++ ⟨#[58]⟩ ++ c ++ ⟨#[58]⟩ ++ d ++ ⟨#[58]⟩).size ≤ 43 := by rw [cat_size]; show _ + 1 ≤ 43; omega
  have s8 : (u.name ++ ⟨#[58]⟩ ++ u.pass ++ ⟨#[58]⟩ ++ c ++ ⟨#[58]⟩ ++ d ++ ⟨#[58]⟩ ++ u.home).size ≤ 171 := by rw [cat_size]; omega
  have s9 : (u.name ++ ⟨#[58]⟩ ++ u.pass ++ ⟨#[58]⟩ ++ c ++ ⟨#[58]⟩ ++ d ++ ⟨#[58]⟩ ++ u.home ++ ⟨#[58]⟩).size ≤ 172 := by rw [cat_size]; show _ + 1 ≤ 172; omega
  have hb1 : Below w.heap.size w (w.alloc (boxU u)) := (Below.refl _ w).alloc (Nat.le_refl _) _
  have hu1 : UBlk (w.alloc (boxU u)) w.heap.size u := Blk.new w 29 _
  obtain ⟨d0, d1, d2, d3, d4, d5⟩ := hu1.at
  unfold boxU at hb1 d0 d1 d2 d3 d4 d5
  obtain ⟨-, z1⟩ := z1
  clear hr p1 p2 p3 p4 p5 p6 z3 z4 hc hd hu1
  unfold Usr.val
  go_enter Tryz.func29, Tryz.ntmps29
  go_wp2_with fail
  generalize w.alloc (.cells #[.string u.name, .string u.pass, .int .i64 u.id, .int .i64 u.grp, .string u.home, .string u.shell] 29) = w1 at hb1 d0 d1 d2 d3 d4 d5 ⊢
  have e0 := up_cell d0
  have e1 := up_cell d1
  have e2 := up_cell d2
  have e3 := up_cell d3
  have e4 := up_cell d4
  have e5 := up_cell d5
  clear d0 d1 d2 d3 d4 d5
  refine wp_region_up (by kernel_rfl) (by kernel_rfl) ?_
  repeat (go_big_quiet_step ((first | (go_at_call 50; (with_reducible refine Calls.up_of (C1.out _))) | (go_at_call 50; (with_reducible refine Calls.up_of (C2.out _))))))
  refine wpQuiet_nil ?_
  intro _ hw'
  obtain ⟨pq, hw''⟩ := hw'
  subst hw''
  have hbq := next hb1 hb1.size pq.le
  generalize pq.w = wq at hbq ⊢
  go_wp2
  go_ret
  exact ⟨ret_val (congrArg Value.string Hcore.out), hbq⟩
end Go.Proofs.YtjopmchbphjliaaGreatDoor
