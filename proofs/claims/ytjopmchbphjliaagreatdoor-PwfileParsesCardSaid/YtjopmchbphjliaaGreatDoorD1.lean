/- Contracts of the document's Find and Of. -/
import Derived.Test.YtjopmchbphjliaaGreatDoorL4
import Derived.Test.YtjopmchbphjliaaGreatDoorU3
namespace Go.Proofs.YtjopmchbphjliaaGreatDoor
open Go.RowKit Go.Shelf

theorem found_hit (q : Usr → Bool) (us : List Usr) (k : Nat) (u : Usr) (hk : us[k]? = some u) (hq : q u = true) (hn : ∀ j v, j < k → us[j]? = some v → q v = false) : foundV q us = .tuple #[u.val, .bool true] := by
  have h := findI_hit q us k u hk hq hn
  obtain ⟨k', u', h1, _, h3, h4⟩ := found_yes q us (by omega)
  obtain rfl : k' = k := by omega
  rw [hk] at h3
  cases h3
  exact h4
theorem rfind_res (W : World) (B : Nat) (u : Usr) (b : Bool) (h : UBlk W B u) (tmps : Array Value) (h4 : tmps.getD 4 undef = .pointer (some ⟨B, 0, none⟩)) (h5 : tmps.getD 5 undef = .bool b) :
    (results Tryz.f15 tmps).run Tryz.prog W = .ok (.tuple #[u.val, .bool b]) W := by
  obtain ⟨c0, c1, c2, c3, c4, c5⟩ := h.at
  simp only [Array.getD_eq_getD_getElem?] at h4 h5
  simp only [results, Tryz.f15, Usr.val]
  simp [go_sem, h4, h5, c0, c1, c2, c3, c4, c5]
set_option maxRecDepth 100000 in
set_option maxHeartbeats 3200000 in
theorem rfind_any (p : Option Addr) (n cap : Nat) (us : List Usr) (s : ByteArray) (w : World) (hin : InUsers w p n us) (hn : n ≤ maxLen) :
    Calls Tryz.prog 15 #[.slice p n cap, .string s] w fun e w' => e = .returned (foundV (qName s) us) ∧ Below w.heap.size w w' := by
  have hb1 : Below w.heap.size w (w.alloc zeroU) := (Below.refl _ w).alloc (Nat.le_refl _) _
  have hu1 : UBlk (w.alloc zeroU) w.heap.size noUsr := Blk.new w 29 _
  have hin1 := hin.below hb1 (Nat.le_refl _)
  have hlen := hin.1
  have Hin := Lib.hid hin1
  have Hu1 := Lib.hid hu1
  have Hb1 := Lib.hid hb1
  unfold maxLen at hn
  clear hin hin1 hu1 hb1
  unfold zeroU at *
  subst hlen
  go_enter Tryz.func15, Tryz.ntmps15
  go_wp2
  have hB1 : w.heap.size < (w.alloc (.cells #[.string ⟨#[]⟩, .string ⟨#[]⟩, .int .i64 0, .int .i64 0, .string ⟨#[]⟩, .string ⟨#[]⟩] 29)).heap.size := by simp
  generalize w.alloc (.cells #[.string ⟨#[]⟩, .string ⟨#[]⟩, .int .i64 0, .int .i64 0, .string ⟨#[]⟩, .string ⟨#[]⟩] 29) = w1 at Hin Hu1 Hb1 hB1 ⊢
  obtain ⟨B, hB⟩ : ∃ B, w.heap.size = B := ⟨_, rfl⟩
  rw [hB] at Hu1 hB1 ⊢
  have HB := Lib.hid hB
  go_loopw [6] (fun i wr => ixRel w1 (qName s) us i wr) (fun i _ => us.length - (intOf i).toNat)
  case atStart => exact ⟨0, Nat.zero_le _, rfl, Below.refl _ _, fun j v h => absurd h (Nat.not_lt_zero _)⟩
  case round =>
    obtain ⟨k, hk, rfl, hR, hno⟩ := hrel
    have Hno := Lib.hid hno
    clear hno hB
    have hur : UBlk wr B noUsr := Blk.below Hu1.out hR hB1
    have hbr : Below B w wr := by
      have := Hb1.out.trans (hR.mono Hb1.out.size)
      rw [HB.out] at this; exact this
    have hltB : B < wr.heap.size := Nat.lt_of_lt_of_le hB1 hR.size
    obtain ⟨f0, f1, f2, f3, f4, f5⟩ := hur.froz
    obtain ⟨a0, a1, a2, a3, a4, a5⟩ := hur.at
    by_cases hlt : k < us.length
    · have hu : us[k]? = some us[k] := List.getElem?_eq_getElem hlt
      obtain ⟨hok, b, off, hpp, hc⟩ := Hin.out.2 k _ hu
      have hcw := hc.below hR hc.lt
      generalize us[k] = u at hu hcw
      subst hpp
      obtain ⟨c0, c1, c2, c3, c4, c5⟩ := hcw
      have Hu := Lib.hid hu
      clear hu hc hok
      cases hq : qName s u
      · have Hq := Lib.hid hq
        unfold qName at hq
        go_wp2
        go_roundw
        case rel => exact ⟨k + 1, by omega, by go_num, hR, ix_next Hu.out Hq.out Hno.out⟩
        case measure => simp [intOf]; omega
      · have Hr := Lib.hid (found_hit (qName s) us k u Hu.out hq Hno.out)
        unfold qName at hq
        go_wp2
        have hu3 : UBlk (st6 wr B (.string u.name) (.string u.pass) (.int .i64 u.id) (.int .i64 u.grp) (.string u.home) (.string u.shell)) B u := st6_blk hur _ _ _ _ _ _
        have hb3 := hbr.trans (st6_below wr (Nat.le_refl _) (.string u.name) (.string u.pass) (.int .i64 u.id) (.int .i64 u.grp) (.string u.home) (.string u.shell))
        refine bodyPost_ret (rfind_res _ _ u true hu3 _ rfl rfl) rfl ⟨?_, by rw [HB.out]; exact hb3⟩
        rw [Hr.out]
    · obtain rfl : k = us.length := by omega
      have Hr := Lib.hid (found_no (qName s) us (by rw [findI_miss (qName s) us (fun u hu => by
        obtain ⟨j, hj⟩ := List.getElem?_of_mem hu
        exact Hno.out j u (List.getElem?_eq_some_iff.1 hj).1 hj)]; decide))
      go_wp2
      have hu3 : UBlk (st6 wr B (.string ⟨#[]⟩) (.string ⟨#[]⟩) (.int .i64 0) (.int .i64 0) (.string ⟨#[]⟩) (.string ⟨#[]⟩)) B noUsr := st6_blk hur _ _ _ _ _ _
      have hb3 := hbr.trans (st6_below wr (Nat.le_refl _) (.string ⟨#[]⟩) (.string ⟨#[]⟩) (.int .i64 0) (.int .i64 0) (.string ⟨#[]⟩) (.string ⟨#[]⟩))
      refine bodyPost_ret (rfind_res _ _ noUsr false hu3 _ rfl rfl) rfl ⟨?_, by rw [HB.out]; exact hb3⟩
      rw [Hr.out]
theorem rof_res (W : World) (B : Nat) (u : Usr) (b : Bool) (h : UBlk W B u) (tmps : Array Value) (h4 : tmps.getD 4 undef = .pointer (some ⟨B, 0, none⟩)) (h5 : tmps.getD 5 undef = .bool b) :
    (results Tryz.f17 tmps).run Tryz.prog W = .ok (.tuple #[u.val, .bool b]) W := by
  obtain ⟨c0, c1, c2, c3, c4, c5⟩ := h.at
  simp only [Array.getD_eq_getD_getElem?] at h4 h5
  simp only [results, Tryz.f17, Usr.val]
  simp [go_sem, h4, h5, c0, c1, c2, c3, c4, c5]
set_option maxRecDepth 100000 in
set_option maxHeartbeats 3200000 in
theorem rof_any (p : Option Addr) (n cap : Nat) (us : List Usr) (s : Int) (w : World) (hin : InUsers w p n us) (hn : n ≤ maxLen) :
    Calls Tryz.prog 17 #[.slice p n cap, .int .i64 s] w fun e w' => e = .returned (foundV (qId s) us) ∧ Below w.heap.size w w' := by
  have hb1 : Below w.heap.size w (w.alloc zeroU) := (Below.refl _ w).alloc (Nat.le_refl _) _
  have hu1 : UBlk (w.alloc zeroU) w.heap.size noUsr := Blk.new w 29 _
  have hin1 := hin.below hb1 (Nat.le_refl _)
  have hlen := hin.1
  have Hin := Lib.hid hin1
  have Hu1 := Lib.hid hu1
  have Hb1 := Lib.hid hb1
  unfold maxLen at hn
  clear hin hin1 hu1 hb1
  unfold zeroU at *
  subst hlen
  go_enter Tryz.func17, Tryz.ntmps17
  go_wp2
  have hB1 : w.heap.size < (w.alloc (.cells #[.string ⟨#[]⟩, .string ⟨#[]⟩, .int .i64 0, .int .i64 0, .string ⟨#[]⟩, .string ⟨#[]⟩] 29)).heap.size := by simp
  generalize w.alloc (.cells #[.string ⟨#[]⟩, .string ⟨#[]⟩, .int .i64 0, .int .i64 0, .string ⟨#[]⟩, .string ⟨#[]⟩] 29) = w1 at Hin Hu1 Hb1 hB1 ⊢
  obtain ⟨B, hB⟩ : ∃ B, w.heap.size = B := ⟨_, rfl⟩
  rw [hB] at Hu1 hB1 ⊢
  have HB := Lib.hid hB
  go_loopw [6] (fun i wr => ixRel w1 (qId s) us i wr) (fun i _ => us.length - (intOf i).toNat)
  case atStart => exact ⟨0, Nat.zero_le _, rfl, Below.refl _ _, fun j v h => absurd h (Nat.not_lt_zero _)⟩
  case round =>
    obtain ⟨k, hk, rfl, hR, hno⟩ := hrel
    have Hno := Lib.hid hno
    clear hno hB
    have hur : UBlk wr B noUsr := Blk.below Hu1.out hR hB1
    have hbr : Below B w wr := by
      have := Hb1.out.trans (hR.mono Hb1.out.size)
      rw [HB.out] at this; exact this
    have hltB : B < wr.heap.size := Nat.lt_of_lt_of_le hB1 hR.size
    obtain ⟨f0, f1, f2, f3, f4, f5⟩ := hur.froz
    obtain ⟨a0, a1, a2, a3, a4, a5⟩ := hur.at
    by_cases hlt : k < us.length
    · have hu : us[k]? = some us[k] := List.getElem?_eq_getElem hlt
      obtain ⟨hok, b, off, hpp, hc⟩ := Hin.out.2 k _ hu
      have hcw := hc.below hR hc.lt
      generalize us[k] = u at hu hcw
      subst hpp
      obtain ⟨c0, c1, c2, c3, c4, c5⟩ := hcw
      have Hu := Lib.hid hu
      clear hu hc hok
      cases hq : qId s u
      · have Hq := Lib.hid hq
        unfold qId at hq
        go_wp2
        go_roundw
        case rel => exact ⟨k + 1, by omega, by go_num, hR, ix_next Hu.out Hq.out Hno.out⟩
        case measure => simp [intOf]; omega
      · have Hr := Lib.hid (found_hit (qId s) us k u Hu.out hq Hno.out)
        unfold qId at hq
        go_wp2
        have hu3 : UBlk (st6 wr B (.string u.name) (.string u.pass) (.int .i64 u.id) (.int .i64 u.grp) (.string u.home) (.string u.shell)) B u := st6_blk hur _ _ _ _ _ _
        have hb3 := hbr.trans (st6_below wr (Nat.le_refl _) (.string u.name) (.string u.pass) (.int .i64 u.id) (.int .i64 u.grp) (.string u.home) (.string u.shell))
        refine bodyPost_ret (rof_res _ _ u true hu3 _ rfl rfl) rfl ⟨?_, by rw [HB.out]; exact hb3⟩
        rw [Hr.out]
    · obtain rfl : k = us.length := by omega
      have Hr := Lib.hid (found_no (qId s) us (by rw [findI_miss (qId s) us (fun u hu => by
        obtain ⟨j, hj⟩ := List.getElem?_of_mem hu
        exact Hno.out j u (List.getElem?_eq_some_iff.1 hj).1 hj)]; decide))
      go_wp2
      have hu3 : UBlk (st6 wr B (.string ⟨#[]⟩) (.string ⟨#[]⟩) (.int .i64 0) (.int .i64 0) (.string ⟨#[]⟩) (.string ⟨#[]⟩)) B noUsr := st6_blk hur _ _ _ _ _ _
      have hb3 := hbr.trans (st6_below wr (Nat.le_refl _) (.string ⟨#[]⟩) (.string ⟨#[]⟩) (.int .i64 0) (.int .i64 0) (.string ⟨#[]⟩) (.string ⟨#[]⟩))
      refine bodyPost_ret (rof_res _ _ noUsr false hu3 _ rfl rfl) rfl ⟨?_, by rw [HB.out]; exact hb3⟩
      rw [Hr.out]
end Go.Proofs.YtjopmchbphjliaaGreatDoor
