/- Contract of nextUser. -/
import Derived.Test.YtjopmchbphjliaaGreatDoorL4
namespace Go.Proofs.YtjopmchbphjliaaGreatDoor
open Go.RowKit Go.Shelf

/-- what a line gives behind other users: a user and 0, or an error. -/
def nextS (us : List Usr) (s : ByteArray) : Usr × Nat :=
  match userS s with
  | none => (noUsr, 17)
  | some u => if us.any (qName u.name) = true then (noUsr, 5) else if 8 ≤ us.length then (noUsr, 12) else (u, 0)
def nextV (r : Usr × Nat) : Value := .tuple #[r.1.val, .int .i64 (r.2 : Int)]
theorem next_res (W : World) (B : Nat) (u : Usr) (k : Int) (h : UBlk W B u) (tmps : Array Value) (h4 : tmps.getD 4 undef = .pointer (some ⟨B, 0, none⟩)) (h5 : tmps.getD 5 undef = .int .i64 k) :
    (results Tryz.f22 tmps).run Tryz.prog W = .ok (.tuple #[u.val, .int .i64 k]) W := by
  obtain ⟨c0, c1, c2, c3, c4, c5⟩ := h.at
  simp only [Array.getD_eq_getD_getElem?] at h4 h5
  simp only [results, Tryz.f22, Usr.val]
  simp [go_sem, h4, h5, c0, c1, c2, c3, c4, c5]
theorem next_zero {w W : World} {B : Nat} {us : List Usr} {s : ByteArray} (k : Nat) (hr : nextS us s = (noUsr, k)) (hu : UBlk W B noUsr) (hb : Below w.heap.size w W) (hB : w.heap.size ≤ B) (tmps : Array Value) (h4 : tmps.getD 4 undef = .pointer (some ⟨B, 0, none⟩)) (h5 : tmps.getD 5 undef = .int .i64 (k : Int)) :
    bodyPost Tryz.prog Tryz.f22 (fun e w' => e = .returned (nextV (nextS us s)) ∧ Below w.heap.size w w') Exit.ret { tmps := tmps, defers := [] } (st0 W B) := by
  have hu3 : UBlk (st0 W B) B noUsr := st6_blk hu _ _ _ _ _ _
  have hb3 := hb.trans (st6_below W hB (.string ⟨#[]⟩) (.string ⟨#[]⟩) (.int .i64 0) (.int .i64 0) (.string ⟨#[]⟩) (.string ⟨#[]⟩))
  exact bodyPost_ret (next_res _ _ noUsr _ hu3 _ h4 h5) rfl ⟨by rw [hr]; rfl, hb3⟩
theorem next_fin {w W : World} {B : Nat} {us : List Usr} {s : ByteArray} (k : Nat) (hr : nextS us s = (noUsr, k)) (hu : UBlk W B noUsr) (hb : Below w.heap.size w W) (tmps : Array Value) (h4 : tmps.getD 4 undef = .pointer (some ⟨B, 0, none⟩)) (h5 : tmps.getD 5 undef = .int .i64 (k : Int)) :
    bodyPost Tryz.prog Tryz.f22 (fun e w' => e = .returned (nextV (nextS us s)) ∧ Below w.heap.size w w') Exit.ret { tmps := tmps, defers := [] } W :=
  bodyPost_ret (next_res _ _ noUsr _ hu _ h4 h5) rfl ⟨by rw [hr]; rfl, hb⟩
set_option maxRecDepth 100000 in
set_option maxHeartbeats 3200000 in
theorem nextUser_any (p : Option Addr) (n cap : Nat) (us : List Usr) (s : ByteArray) (hs : s.size ≤ 4096) (w : World) (henv : Env w) (hin : InUsers w p n us) (hn : n ≤ maxLen) :
    Calls Tryz.prog 22 #[.slice p n cap, .string s] w fun e w' => e = .returned (nextV (nextS us s)) ∧ Below w.heap.size w w' := by
  have hb1 : Below w.heap.size w (w.alloc zeroU) := (Below.refl _ w).alloc (Nat.le_refl _) _
  have hu1 : UBlk (w.alloc zeroU) w.heap.size noUsr := Blk.new w 29 _
  have hcall := userOf_any s hs (w.alloc zeroU) (henv.below hb1)
  have hlen := hin.1
  cases hu : userS s with
  | none =>
    have Hr := Lib.hid (show nextS us s = (noUsr, 17) by unfold nextS; rw [hu])
    rw [hu] at hcall
    clear hu hin
    unfold optV Usr.val at hcall
    simp only [Option.getD_none, Option.isSome_none, noUsr] at hcall
    unfold zeroU at *
    go_enter Tryz.func22, Tryz.ntmps22
    go_wp2_with fail
    refine hcall.mono ?_
    rintro e w1 ⟨rfl, hbz⟩
    have hb2 : Below w.heap.size w w1 := next hb1 hb1.size hbz
    have hu2 : UBlk w1 w.heap.size noUsr := Blk.below hu1 hbz hu1.at.lt
    clear hb1 hu1 hbz hcall henv
    have hlt := hu2.at.lt
    have hne := Nat.ne_of_lt hlt
    obtain ⟨f0, f1, f2, f3, f4, f5⟩ := hu2.froz
    obtain ⟨c0, c1, c2, c3, c4, c5⟩ := hu2.at
    go_wp2
    have hu5 : UBlk ((st0 w1 w.heap.size).alloc zeroU) w.heap.size noUsr := Blk.alloc (st6_blk hu2 _ _ _ _ _ _) _
    have hb5 : Below w.heap.size w ((st0 w1 w.heap.size).alloc zeroU) := (hb2.trans (st6_below w1 (Nat.le_refl _) _ _ _ _ _ _)).alloc (by show _ ≤ (st0 w1 w.heap.size).heap.size; exact (hb2.trans (st6_below w1 (Nat.le_refl _) _ _ _ _ _ _)).size) _
    unfold zeroU at hu5 hb5
    exact next_fin 17 Hr.out hu5 hb5 _ rfl rfl
  | some u =>
    have hname := fun w1 (h : InUsers w1 p n us) => hasName_any p n cap us u.name w1 h hn
    obtain ⟨nb, hnb⟩ : ∃ nb, us.any (qName u.name) = nb := ⟨_, rfl⟩
    rw [hu] at hcall
    rw [hnb] at hname
    unfold maxLen at hn
    have Hu := Lib.hid hu
    have Hnb := Lib.hid hnb
    have Hname := Lib.hid hname
    have Hin := Lib.hid hin
    clear hu hin hnb hname
    unfold optV Usr.val at hcall
    simp only [Option.getD_some, Option.isSome_some] at hcall
    unfold zeroU at *
    go_enter Tryz.func22, Tryz.ntmps22
    go_wp2_with fail
    refine hcall.mono ?_
    rintro e w1 ⟨rfl, hbz⟩
    have hb2 : Below w.heap.size w w1 := next hb1 hb1.size hbz
    have hu2 : UBlk w1 w.heap.size noUsr := Blk.below hu1 hbz hu1.at.lt
    clear hb1 hu1 hbz hcall henv
    have hb3 := hb2.alloc hb2.size (boxU u)
    have hu3 : UBlk (w1.alloc (boxU u)) w.heap.size noUsr := Blk.alloc hu2 _
    have hv3 : UBlk (w1.alloc (boxU u)) w1.heap.size u := Blk.new w1 29 _
    have hlt := hu2.at.lt
    clear hu2
    have hn3 := Hname.out _ (Hin.out.below hb3 (Nat.le_refl _))
    unfold boxU at hb3 hu3 hv3 hn3
    go_wp2_with fail
    refine hn3.mono ?_
    rintro e w2 ⟨rfl, hbz⟩
    have hb4 : Below w.heap.size w w2 := next hb3 hb3.size hbz
    have hu4 : UBlk w2 w.heap.size noUsr := Blk.below hu3 hbz hu3.at.lt
    have hv4 : UBlk w2 w1.heap.size u := Blk.below hv3 hbz hv3.at.lt
    have hne : w1.heap.size ≠ w.heap.size := by omega
    clear hb3 hu3 hv3 hbz hn3 hb2 Hname Hin
    generalize w1.heap.size = V at *
    obtain ⟨f0, f1, f2, f3, f4, f5⟩ := hu4.froz
    obtain ⟨c0, c1, c2, c3, c4, c5⟩ := hu4.at
    obtain ⟨d0, d1, d2, d3, d4, d5⟩ := hv4.at
    cases nb
    · by_cases h8 : 8 ≤ n
      · have Hr := Lib.hid (show nextS us s = (noUsr, 12) by unfold nextS; rw [Hu.out]; show (if us.any (qName u.name) = true then _ else _) = _; rw [Hnb.out, if_neg Bool.false_ne_true, if_pos (by omega)])
        go_wp2
        exact next_zero 12 Hr.out hu4 hb4 (Nat.le_refl _) _ rfl rfl
      · have Hr := Lib.hid (show nextS us s = (u, 0) by unfold nextS; rw [Hu.out]; show (if us.any (qName u.name) = true then _ else _) = _; rw [Hnb.out, if_neg Bool.false_ne_true, if_neg (by omega)])
        go_wp2
        have hu8 : UBlk (st6 w2 w.heap.size (.string u.name) (.string u.pass) (.int .i64 u.id) (.int .i64 u.grp) (.string u.home) (.string u.shell)) w.heap.size u := st6_blk hu4 _ _ _ _ _ _
        have hb8 := hb4.trans (st6_below w2 (Nat.le_refl _) (.string u.name) (.string u.pass) (.int .i64 u.id) (.int .i64 u.grp) (.string u.home) (.string u.shell))
        exact bodyPost_ret (next_res _ _ u 0 hu8 _ rfl rfl) rfl ⟨by rw [Hr.out]; rfl, hb8⟩
    · have Hr := Lib.hid (show nextS us s = (noUsr, 5) by unfold nextS; rw [Hu.out]; show (if us.any (qName u.name) = true then _ else _) = _; rw [Hnb.out, if_pos rfl])
      go_wp2
      exact next_zero 5 Hr.out hu4 hb4 (Nat.le_refl _) _ rfl rfl
end Go.Proofs.YtjopmchbphjliaaGreatDoor
