/- Contract of lineOf. -/
import Derived.Test.YtjopmchbphjliaaGreatDoorL1
namespace Go.Proofs.YtjopmchbphjliaaGreatDoor
open Go.RowKit Go.Shelf

theorem join_six (B : Nat) (a b c d e f : ByteArray) (w : World) (hb : Blk w B 9 #[.string a, .string b, .string c, .string d, .string e, .string f])
    (hlen : (Lib.join [a.data.toList, b.data.toList, c.data.toList, d.data.toList, e.data.toList, f.data.toList] [58]).length ≤ 140737488355328) :
    Calls Tryz.prog 49 #[.slice (some ⟨B, 0, none⟩) 6 6, .string ⟨#[58]⟩] w fun x w' => x = .returned (.string ⟨(Lib.join [a.data.toList, b.data.toList, c.data.toList, d.data.toList, e.data.toList, f.data.toList] [58]).toArray⟩) ∧ Below w.heap.size w w' :=
  Tryz.strings_Join B 0 6 [a, b, c, d, e, f] ⟨#[58]⟩ w (fun j x hx => by
    rw [Nat.zero_add, hb.cell]
    match j, hx with
    | 0, hx => simp at hx; subst hx; rfl
    | 1, hx => simp at hx; subst hx; rfl
    | 2, hx => simp at hx; subst hx; rfl
    | 3, hx => simp at hx; subst hx; rfl
    | 4, hx => simp at hx; subst hx; rfl
    | 5, hx => simp at hx; subst hx; rfl
    | j + 6, hx => simp at hx) hb.lt (by show 6 ≤ 140737488355328; decide) (Nat.le_refl _) hlen
theorem line_str (l : List UInt8) : (⟨l.toArray⟩ : ByteArray) ++ ⟨#[10]⟩ = ⟨(l ++ [10]).toArray⟩ := by
  apply ByteArray.ext
  rw [ByteArray.data_append]
  simp
set_option maxRecDepth 100000 in
set_option maxHeartbeats 3200000 in
theorem lineOf_any (u : Usr) (hr : rightU u = true) (w : World) (henv : Env w) :
    Calls Tryz.prog 27 #[u.val] w fun e w' => e = .returned (.string ⟨(lineS u).toArray⟩) ∧ Below w.heap.size w w' := by
  have hb1 : Below w.heap.size w (w.alloc (boxU u)) := (Below.refl _ w).alloc (Nat.le_refl _) _
  have hu1 : UBlk (w.alloc (boxU u)) w.heap.size u := Blk.new w 29 _
  obtain ⟨d0, d1, d2, d3, d4, d5⟩ := hu1.at
  have e0 := up_cell d0
  have e1 := up_cell d1
  have e2 := up_cell d2
  have e3 := up_cell d3
  have e4 := up_cell d4
  have e5 := up_cell d5
  clear d0 d1 d2 d3 d4 d5 hu1
  have hl := line_len hr
  obtain ⟨_, _, h3, h4, _, _⟩ := right_parts hr
  have hi := id_range h3
  have hg := id_range h4
  have c1 : ∀ p : UpW (w.alloc (boxU u)), Calls Tryz.prog 48 #[.int .i64 u.id] p.w fun e w' => e = .returned (.string ⟨(Lib.itoa u.id).toArray⟩) ∧ Below p.w.heap.size p.w w' :=
    fun p => itoa_any _ (by omega) (by omega) _ ((henv.below hb1).below p.le)
  have c2 : ∀ p : UpW (w.alloc (boxU u)), Calls Tryz.prog 48 #[.int .i64 u.grp] p.w fun e w' => e = .returned (.string ⟨(Lib.itoa u.grp).toArray⟩) ∧ Below p.w.heap.size p.w w' :=
    fun p => itoa_any _ (by omega) (by omega) _ ((henv.below hb1).below p.le)
  clear h3 h4 hi hg hr
  obtain ⟨ti, hti⟩ : ∃ t : ByteArray, (⟨(Lib.itoa u.id).toArray⟩ : ByteArray) = t := ⟨_, rfl⟩
  obtain ⟨tg, htg⟩ : ∃ t : ByteArray, (⟨(Lib.itoa u.grp).toArray⟩ : ByteArray) = t := ⟨_, rfl⟩
  rw [hti] at c1
  rw [htg] at c2
  have Hl := Lib.hid (show lineS u = Lib.join [u.name.data.toList, u.pass.data.toList, ti.data.toList, tg.data.toList, u.home.data.toList, u.shell.data.toList] [58] ++ [10] by rw [← hti, ← htg]; rfl)
  have Hlen := Lib.hid hl
  have C1 := Lib.hid c1
  have C2 := Lib.hid c2
  clear hti htg hl c1 c2
  unfold Usr.val
  go_enter Tryz.func27, Tryz.ntmps27
  go_wp2
  unfold boxU at e0 e1 e2 e3 e4 e5
  refine wp_region_up (by kernel_rfl) (by kernel_rfl) ?_
  repeat (go_big_quiet_step ((first | (go_at_call 48; (with_reducible refine Calls.up_of (C1.out _))) | (go_at_call 48; (with_reducible refine Calls.up_of (C2.out _))))))
  refine wpQuiet_nil ?_
  intro _ hw'
  obtain ⟨pq, hw''⟩ := hw'
  subst hw''
  have hbq : Below w.heap.size w pq.w := hb1.trans (pq.le.mono hb1.size)
  have g0 := e0 pq
  have g1 := e1 pq
  have g4 := e4 pq
  have g5 := e5 pq
  clear e0 e1 e2 e3 e4 e5 hb1 C1 C2
  generalize pq.w = wq at hbq g0 g1 g4 g5 ⊢
  clear pq
  have hb2 := hbq.alloc hbq.size (.cells #[.string u.name, .string u.pass, .string ti, .string tg, .string u.home, .string u.shell] 9)
  have hbl := Blk.new wq 9 #[.string u.name, .string u.pass, .string ti, .string tg, .string u.home, .string u.shell]
  have hj := join_six _ _ _ _ _ _ _ _ hbl (by have := Hlen.out; rw [Hl.out, List.length_append] at this; omega)
  obtain ⟨tj, htj⟩ : ∃ t : ByteArray, (⟨(Lib.join [u.name.data.toList, u.pass.data.toList, ti.data.toList, tg.data.toList, u.home.data.toList, u.shell.data.toList] [58]).toArray⟩ : ByteArray) = t := ⟨_, rfl⟩
  rw [htj] at hj
  have hts : tj.size ≤ 301 := by
    have := Hlen.out
    rw [Hl.out, List.length_append] at this
    rw [← size_len, ← htj]
    exact Nat.le_trans (Nat.le_add_right _ _) this
  have Hfin := Lib.hid (show Value.string (tj ++ ⟨#[10]⟩) = .string ⟨(lineS u).toArray⟩ by rw [← htj, line_str, ← Hl.out])
  have Hj := Lib.hid hj
  clear hj hbl htj
  go_wp2_with (go_at_call 49; refine Hj.out.mono ?_; rintro e w' ⟨rfl, hb3⟩)
  go_ret
  exact ⟨ret_val Hfin.out, next hb2 hb2.size hb3⟩
end Go.Proofs.YtjopmchbphjliaaGreatDoor
