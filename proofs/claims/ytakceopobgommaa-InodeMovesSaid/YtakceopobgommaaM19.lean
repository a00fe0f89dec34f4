/- LH: several texts in one. -/
import Derived.Test.YtakceopobgommaaM16
import Derived.Test.YtakceopobgommaaM18

/- The walk of InodeMoves. -/
namespace Go.Proofs.Ytakceopobgommaa
open Go.RowKit Ino Go.Maps
set_option linter.unusedVariables false
set_option linter.unusedSimpArgs false

theorem v_make1 : makeP (newP 493 0 0) (rMake 1 493 0 0 0) 1 493 0 0 0 = (mk2, 2, 0) := by
  rw [show rMake 1 493 0 0 0 = true by decide]; exact make_first _ _ _ _ _ _ _ _
theorem v_make2 : makeP mk2 (rMake 1 493 0 0 0) 1 493 0 0 0 = (mk3, 3, 0) := by
  rw [show rMake 1 493 0 0 0 = true by decide]; exact mo_make2
theorem v_make3 : makeP mk3 (rMake 0 420 0 0 0) 0 420 0 0 0 = (moT [] 2 3 [] [] [], 4, 0) := by
  rw [show rMake 0 420 0 0 0 = true by decide]; exact mo_make3
theorem v_s1 : Sound mk2 := by
  have := sound_make s_sd0 (rMake 1 493 0 0 0) 1 493 0 0 0 (fun _ => .inr (.inl rfl))
  rw [v_make1] at this; exact this
theorem v_s2 : Sound mk3 := by
  have := sound_make v_s1 (rMake 1 493 0 0 0) 1 493 0 0 0 (fun _ => .inr (.inl rfl))
  rw [v_make2] at this; exact this
theorem v_s3 : Sound (moT [] 2 3 [] [] []) := by
  have := sound_make v_s2 (rMake 0 420 0 0 0) 0 420 0 0 0 (fun _ => .inl rfl)
  rw [v_make3] at this; exact this
theorem v_s4 : Sound (moT [([97], 2)] 1 3 [] [] []) := by
  have := sound_enter v_s3 1 [97] 2
  rw [mo_enter1] at this; exact this
theorem v_s5 : Sound (moT ab 1 1 [] [] []) := by
  have := sound_enter v_s4 1 [98] 3
  rw [mo_enter2] at this; exact this
theorem v_s6 : Sound (moT ab 1 1 [([102], 4)] [] []) := by
  have := sound_enter v_s5 2 [102] 4
  rw [mo_enter3] at this; exact this
theorem v_s7 : Sound (mo false [102]) := by
  have := sound_put v_s6 4 0 byt
  rw [mo_put] at this; exact this
theorem v_move {q q' : Bool} {nm nm' : Bs} (hs : Sound (mo q nm)) (hn : nameOk nm' = true) : Sound (mo q' nm') := by
  have := sound_move hs (dirOf q) nm (dirOf q') nm'
  rw [mo_move q q' nm nm' hs, if_pos hn] at this
  exact this
def movRel (w : World) (A : Nat) (dv nv iv : Value) (wr : World) : Prop := ∃ (k : Nat) (q : Bool) (nm : ByteArray), iv = .int .i64 k ∧ k ≤ 50 ∧ dv = .int .i64 (dirOf q) ∧ nv = .string nm ∧ nameOk nm.data.toList = true ∧ nm.size ≤ maxLen ∧ PS w wr A (mo q nm.data.toList) ∧ Sound (mo q nm.data.toList)
set_option maxHeartbeats 8000000 in
set_option maxRecDepth 100000 in
theorem moves_walk (p0 : Option Addr) (n0 c0 : Nat) (z0 : List ByteArray) (p1 : Option Addr) (n1 c1 : Nat) (z1 : List Bool) (w : World) (h0 : InStrs w p0 n0 z0) (l0 : n0 ≤ maxLen) (h1 : InBools w p1 n1 z1) (l1 : n1 ≤ maxLen) :
    Calls Try.prog 6 #[.slice p0 n0 c0, .slice p1 n1 c1] w fun e w' => e = .returned (.bool true) ∧ Below w.heap.size w w' := by
  have H0 := Lib.hid h0
  have H1 := Lib.hid h1
  unfold maxLen at l0 l1
  clear h0 h1
  go_enter Try.func6, Try.ntmps6
  go_wp2_with (first
    | (go_at_call 9; refine (shown_any _).mono ?_; rintro e w1 ⟨rfl, b1⟩)
    | (go_at_call 10; refine (ps_new b1 493 0 0 (by unfold wfI; omega) (by decide)).mono ?_; rintro e w2 ⟨A, rfl, p2⟩)
    | (go_at_call 18; refine (ps_make_at p4 v_s2.sd 0 420 0 0 0 (by unfold wfI; omega) v_make3 (z := 4) (cz := 0) rfl rfl).mono ?_; rintro e w5 ⟨rfl, p5⟩)
    | (go_at_call 18; refine (ps_make_at p3 v_s1.sd 1 493 0 0 0 (by unfold wfI; omega) v_make2 (z := 3) (cz := 0) rfl rfl).mono ?_; rintro e w4 ⟨rfl, p4⟩)
    | (go_at_call 18; refine (ps_make_at p2 s_sd0.sd 1 493 0 0 0 (by unfold wfI; omega) v_make1 (z := 2) (cz := 0) rfl rfl).mono ?_; rintro e w3 ⟨rfl, p3⟩)
    | (go_at_call 22; refine (ps_enter_at p7 v_s5.sd 2 4 ⟨#[102]⟩ (by decide) mo_enter3 (cz := 0) rfl).mono ?_; rintro e w8 ⟨rfl, p8⟩)
    | (go_at_call 22; refine (ps_enter_at p6 v_s4.sd 1 3 ⟨#[98]⟩ (by decide) mo_enter2 (cz := 0) rfl).mono ?_; rintro e w7 ⟨rfl, p7⟩)
    | (go_at_call 22; refine (ps_enter_at p5 v_s3.sd 1 2 ⟨#[97]⟩ (by decide) mo_enter1 (cz := 0) rfl).mono ?_; rintro e w6 ⟨rfl, p6⟩)
    | (go_at_call 19; refine (ps_put_at p8 v_s6.sd 4 0 ⟨#[98, 121, 116, 101, 115]⟩ (by omega) (by decide) mo_put (cz := 0) rfl).mono ?_; rintro e w9 ⟨rfl, p9⟩))
  clear p2 p3 p4 p5 p6 p7 p8 b1
  go_loopw [13, 14, 15] (fun dv nv iv wr => movRel w A dv nv iv wr) (fun _ _ iv _ => 50 - (intOf iv).toNat)
  case atStart => exact ⟨0, false, ⟨#[102]⟩, rfl, by decide, rfl, rfl, by decide, by decide, p9, v_s7⟩
  case round =>
    obtain ⟨k, q, nm, rfl, hk, rfl, rfl, hnk, hns, hp, hso⟩ := hrel
    have HSO := Lib.hid hso
    have Hnk := Lib.hid hnk
    by_cases hlt : k < n0 ∧ k < n1 ∧ k < 50
    · obtain ⟨k0, k1, k2⟩ := hlt
      have hz0 : z0[k]? = some (z0[k]'(by rw [H0.out.1]; exact k0)) := List.getElem?_eq_getElem _
      have hz1 : z1[k]? = some (z1[k]'(by rw [H1.out.1]; exact k1)) := List.getElem?_eq_getElem _
      obtain ⟨g0, o0, rfl, d0, s0⟩ := H0.out.2 k _ hz0
      obtain ⟨g1, o1, rfl, d1, -⟩ := H1.out.2 k _ hz1
      generalize z0[k]'(by rw [H0.out.1]; exact k0) = nm' at hz0 d0 s0
      generalize z1[k]'(by rw [H1.out.1]; exact k1) = b at hz1 d1
      have e0 : wr.cell? ⟨g0, o0 + k, none⟩ = some (.string nm') := (World.cell?_of_block (hp.below.block g0 (cell_lt d0))).trans d0
      have e1 : wr.cell? ⟨g1, o1 + k, none⟩ = some (.bool b) := (World.cell?_of_block (hp.below.block g1 (cell_lt d1))).trans d1
      have i1 : (0 : Int) ≤ (k : Int) := by omega
      have i2 : (k : Int) < n0 := by omega
      have i3 : (k : Int) < n1 := by omega
      have HD0 := Lib.hid fun w1 (h : PS w w1 A (mo q nm.data.toList)) => (show w1.cell? ⟨g0, o0 + k, none⟩ = some (.string nm') from (World.cell?_of_block (h.below.block g0 (cell_lt d0))).trans d0)
      have HD1 := Lib.hid fun w1 t (h : PS w w1 A t) => (show w1.cell? ⟨g0, o0 + k, none⟩ = some (.string nm') from (World.cell?_of_block (h.below.block g0 (cell_lt d0))).trans d0)
      clear hz0 hz1 d0 d1 HD0
      cases b
      · cases hn : nameOk nm'.data.toList
        · skip
          have HM := Lib.hid (show Calls Try.prog 23 #[.pointer (some ⟨A, 0, none⟩), .int .i64 ((dirOf q : Nat) : Int), .string nm, .int .i64 2, .string nm'] wr fun e w' => e = .returned (.int .i64 1) ∧ PS w w' A (mo q nm.data.toList) from ps_move_at hp hso (dirOf q) (dirOf false) nm nm' hns s0 (by rw [mo_move q false _ _ hso, hn]; rfl) (cz := 1) rfl)
          have HSN := Lib.hid (show Sound (mo q nm.data.toList) from hso)
          have HL := Lib.hid fun wx (h : PS w wx A (mo q nm.data.toList)) => (show Calls Try.prog 15 #[.pointer (some ⟨A, 0, none⟩), .int .i64 ((dirOf q : Nat) : Int), .string nm] wx fun e w' => e = .returned (.tuple #[.int .i64 4, .bool true]) ∧ wx = w' from ps_look_at h HSN.out.sd (dirOf q) nm hns (mo_look q hnk) (z := 4) rfl)
          obtain ⟨ha, hb, hc⟩ := mo_names q nm.data.toList
          have N2 := fun wx (h : PS w wx A (mo q nm.data.toList)) => ps_names h HSN.out.sd 2
          have N3 := fun wx (h : PS w wx A (mo q nm.data.toList)) => ps_names h HSN.out.sd 3
          generalize namesP (mo q nm.data.toList) 2 = L2 at N2 ha hb
          generalize namesP (mo q nm.data.toList) 3 = L3 at N3 ha hc
          have HN2 := Lib.hid N2
          have HN3 := Lib.hid N3
          have hdt := fun wx (h : PS w wx A (mo q nm.data.toList)) => ps_data h 4
          rw [mo_data] at hdt
          have HD := Lib.hid hdt
          have hsum : ((L2.length : Int) + (L3.length : Int)) = 1 := by omega
          have HNm := Lib.hid fun wx => name_any nm' s0 wx
          rw [hn] at HNm
          clear N2 N3 hdt hso hp ha
          go_wp2_with (first
            | (go_at_call 23; refine HM.out.mono ?_; rintro e w1 ⟨rfl, p1⟩; have e01 := HD1.out w1 _ p1)
            | (go_at_call 16; refine (HNm.out _).mono ?_; rintro e w' ⟨rfl, rfl⟩)
            | (go_at_call 15; refine (HL.out _ p1).mono ?_; rintro e w' ⟨rfl, rfl⟩)
            | (go_at_call 14; (with_reducible refine (HN2.out _ p1).mono ?_); rintro e w2 ⟨v2, rfl, r2, p2, b2⟩; obtain ⟨pp2, cc2, rfl⟩ := own_form r2)
            | (go_at_call 14; (with_reducible refine (HN3.out _ p2).mono ?_); rintro e w3 ⟨v3, rfl, r3, p3, b3⟩; obtain ⟨pp3, cc3, rfl⟩ := own_form r3)
            | (go_at_call 20; refine (HD.out _ p3).mono ?_; rintro e w' ⟨rfl, rfl⟩))
          go_roundw
          case rel => exact ⟨k + 1, q, nm, by go_num, by omega, rfl, rfl, Hnk.out, hns, p3, HSN.out⟩
          case measure => simp [intOf]; omega
        · skip
          have HM := Lib.hid (show Calls Try.prog 23 #[.pointer (some ⟨A, 0, none⟩), .int .i64 ((dirOf q : Nat) : Int), .string nm, .int .i64 2, .string nm'] wr fun e w' => e = .returned (.int .i64 0) ∧ PS w w' A (mo false nm'.data.toList) from ps_move_at hp hso (dirOf q) (dirOf false) nm nm' hns s0 (by rw [mo_move q false _ _ hso, hn]; rfl) (cz := 0) rfl)
          have HSN := Lib.hid (show Sound (mo false nm'.data.toList) from (v_move hso hn))
          have HL := Lib.hid fun wx (h : PS w wx A (mo false nm'.data.toList)) => (show Calls Try.prog 15 #[.pointer (some ⟨A, 0, none⟩), .int .i64 2, .string nm'] wx fun e w' => e = .returned (.tuple #[.int .i64 4, .bool true]) ∧ wx = w' from ps_look_at h HSN.out.sd (dirOf false) nm' s0 (mo_look false hn) (z := 4) rfl)
          obtain ⟨ha, hb, hc⟩ := mo_names false nm'.data.toList
          have N2 := fun wx (h : PS w wx A (mo false nm'.data.toList)) => ps_names h HSN.out.sd 2
          have N3 := fun wx (h : PS w wx A (mo false nm'.data.toList)) => ps_names h HSN.out.sd 3
          generalize namesP (mo false nm'.data.toList) 2 = L2 at N2 ha hb
          generalize namesP (mo false nm'.data.toList) 3 = L3 at N3 ha hc
          have HN2 := Lib.hid N2
          have HN3 := Lib.hid N3
          have hdt := fun wx (h : PS w wx A (mo false nm'.data.toList)) => ps_data h 4
          rw [mo_data] at hdt
          have HD := Lib.hid hdt
          have hsum : ((L2.length : Int) + (L3.length : Int)) = 1 := by omega
          have HNm := Lib.hid fun wx => name_any nm' s0 wx
          rw [hn] at HNm
          clear N2 N3 hdt hso hp ha
          go_wp2_with (first
            | (go_at_call 23; refine HM.out.mono ?_; rintro e w1 ⟨rfl, p1⟩; have e01 := HD1.out w1 _ p1)
            | (go_at_call 16; refine (HNm.out _).mono ?_; rintro e w' ⟨rfl, rfl⟩)
            | (go_at_call 15; refine (HL.out _ p1).mono ?_; rintro e w' ⟨rfl, rfl⟩)
            | (go_at_call 14; (with_reducible refine (HN2.out _ p1).mono ?_); rintro e w2 ⟨v2, rfl, r2, p2, b2⟩; obtain ⟨pp2, cc2, rfl⟩ := own_form r2)
            | (go_at_call 14; (with_reducible refine (HN3.out _ p2).mono ?_); rintro e w3 ⟨v3, rfl, r3, p3, b3⟩; obtain ⟨pp3, cc3, rfl⟩ := own_form r3)
            | (go_at_call 20; refine (HD.out _ p3).mono ?_; rintro e w' ⟨rfl, rfl⟩))
          go_roundw
          case rel => exact ⟨k + 1, false, nm', by go_num, by omega, rfl, rfl, hn, s0, p3, HSN.out⟩
          case measure => simp [intOf]; omega
      · cases hn : nameOk nm'.data.toList
        · skip
          have HM := Lib.hid (show Calls Try.prog 23 #[.pointer (some ⟨A, 0, none⟩), .int .i64 ((dirOf q : Nat) : Int), .string nm, .int .i64 3, .string nm'] wr fun e w' => e = .returned (.int .i64 1) ∧ PS w w' A (mo q nm.data.toList) from ps_move_at hp hso (dirOf q) (dirOf true) nm nm' hns s0 (by rw [mo_move q true _ _ hso, hn]; rfl) (cz := 1) rfl)
          have HSN := Lib.hid (show Sound (mo q nm.data.toList) from hso)
          have HL := Lib.hid fun wx (h : PS w wx A (mo q nm.data.toList)) => (show Calls Try.prog 15 #[.pointer (some ⟨A, 0, none⟩), .int .i64 ((dirOf q : Nat) : Int), .string nm] wx fun e w' => e = .returned (.tuple #[.int .i64 4, .bool true]) ∧ wx = w' from ps_look_at h HSN.out.sd (dirOf q) nm hns (mo_look q hnk) (z := 4) rfl)
          obtain ⟨ha, hb, hc⟩ := mo_names q nm.data.toList
          have N2 := fun wx (h : PS w wx A (mo q nm.data.toList)) => ps_names h HSN.out.sd 2
          have N3 := fun wx (h : PS w wx A (mo q nm.data.toList)) => ps_names h HSN.out.sd 3
          generalize namesP (mo q nm.data.toList) 2 = L2 at N2 ha hb
          generalize namesP (mo q nm.data.toList) 3 = L3 at N3 ha hc
          have HN2 := Lib.hid N2
          have HN3 := Lib.hid N3
          have hdt := fun wx (h : PS w wx A (mo q nm.data.toList)) => ps_data h 4
          rw [mo_data] at hdt
          have HD := Lib.hid hdt
          have hsum : ((L2.length : Int) + (L3.length : Int)) = 1 := by omega
          have HNm := Lib.hid fun wx => name_any nm' s0 wx
          rw [hn] at HNm
          clear N2 N3 hdt hso hp ha
          go_wp2_with (first
            | (go_at_call 23; refine HM.out.mono ?_; rintro e w1 ⟨rfl, p1⟩; have e01 := HD1.out w1 _ p1)
            | (go_at_call 16; refine (HNm.out _).mono ?_; rintro e w' ⟨rfl, rfl⟩)
            | (go_at_call 15; refine (HL.out _ p1).mono ?_; rintro e w' ⟨rfl, rfl⟩)
            | (go_at_call 14; (with_reducible refine (HN2.out _ p1).mono ?_); rintro e w2 ⟨v2, rfl, r2, p2, b2⟩; obtain ⟨pp2, cc2, rfl⟩ := own_form r2)
            | (go_at_call 14; (with_reducible refine (HN3.out _ p2).mono ?_); rintro e w3 ⟨v3, rfl, r3, p3, b3⟩; obtain ⟨pp3, cc3, rfl⟩ := own_form r3)
            | (go_at_call 20; refine (HD.out _ p3).mono ?_; rintro e w' ⟨rfl, rfl⟩))
          go_roundw
          case rel => exact ⟨k + 1, q, nm, by go_num, by omega, rfl, rfl, Hnk.out, hns, p3, HSN.out⟩
          case measure => simp [intOf]; omega
        · skip
          have HM := Lib.hid (show Calls Try.prog 23 #[.pointer (some ⟨A, 0, none⟩), .int .i64 ((dirOf q : Nat) : Int), .string nm, .int .i64 3, .string nm'] wr fun e w' => e = .returned (.int .i64 0) ∧ PS w w' A (mo true nm'.data.toList) from ps_move_at hp hso (dirOf q) (dirOf true) nm nm' hns s0 (by rw [mo_move q true _ _ hso, hn]; rfl) (cz := 0) rfl)
          have HSN := Lib.hid (show Sound (mo true nm'.data.toList) from (v_move hso hn))
          have HL := Lib.hid fun wx (h : PS w wx A (mo true nm'.data.toList)) => (show Calls Try.prog 15 #[.pointer (some ⟨A, 0, none⟩), .int .i64 3, .string nm'] wx fun e w' => e = .returned (.tuple #[.int .i64 4, .bool true]) ∧ wx = w' from ps_look_at h HSN.out.sd (dirOf true) nm' s0 (mo_look true hn) (z := 4) rfl)
          obtain ⟨ha, hb, hc⟩ := mo_names true nm'.data.toList
          have N2 := fun wx (h : PS w wx A (mo true nm'.data.toList)) => ps_names h HSN.out.sd 2
          have N3 := fun wx (h : PS w wx A (mo true nm'.data.toList)) => ps_names h HSN.out.sd 3
          generalize namesP (mo true nm'.data.toList) 2 = L2 at N2 ha hb
          generalize namesP (mo true nm'.data.toList) 3 = L3 at N3 ha hc
          have HN2 := Lib.hid N2
          have HN3 := Lib.hid N3
          have hdt := fun wx (h : PS w wx A (mo true nm'.data.toList)) => ps_data h 4
          rw [mo_data] at hdt
          have HD := Lib.hid hdt
          have hsum : ((L2.length : Int) + (L3.length : Int)) = 1 := by omega
          have HNm := Lib.hid fun wx => name_any nm' s0 wx
          rw [hn] at HNm
          clear N2 N3 hdt hso hp ha
          go_wp2_with (first
            | (go_at_call 23; refine HM.out.mono ?_; rintro e w1 ⟨rfl, p1⟩; have e01 := HD1.out w1 _ p1)
            | (go_at_call 16; refine (HNm.out _).mono ?_; rintro e w' ⟨rfl, rfl⟩)
            | (go_at_call 15; refine (HL.out _ p1).mono ?_; rintro e w' ⟨rfl, rfl⟩)
            | (go_at_call 14; (with_reducible refine (HN2.out _ p1).mono ?_); rintro e w2 ⟨v2, rfl, r2, p2, b2⟩; obtain ⟨pp2, cc2, rfl⟩ := own_form r2)
            | (go_at_call 14; (with_reducible refine (HN3.out _ p2).mono ?_); rintro e w3 ⟨v3, rfl, r3, p3, b3⟩; obtain ⟨pp3, cc3, rfl⟩ := own_form r3)
            | (go_at_call 20; refine (HD.out _ p3).mono ?_; rintro e w' ⟨rfl, rfl⟩))
          go_roundw
          case rel => exact ⟨k + 1, true, nm', by go_num, by omega, rfl, rfl, hn, s0, p3, HSN.out⟩
          case measure => simp [intOf]; omega
    · skip
      obtain ⟨ia, hia, hil⟩ := mo_stat q nm.data.toList
      have HIA := Lib.hid hia
      have HS2 := Lib.hid fun wx (h : PS w wx A (mo q nm.data.toList)) => ps_stat_at h hso.sd 4 HIA.out
      have hst : nm.toList = nm.data.toList := ByteArray.toList_eq nm
      have Hst := Lib.hid hst
      have main : ∀ other : ByteArray, nameOk other.data.toList = true → other.size ≤ maxLen → nm.data.toList ≠ other.data.toList → (∀ wx, PS w wx A (mo q nm.data.toList) → Calls Try.prog 23 #[.pointer (some ⟨A, 0, none⟩), .int .i64 1, .string ⟨#[97]⟩, .int .i64 2, .string other] wx fun e w' => e = .returned (.int .i64 8) ∧ PS w w' A (mo q nm.data.toList)) ∧
          (∀ wx, PS w wx A (mo q nm.data.toList) → Calls Try.prog 23 #[.pointer (some ⟨A, 0, none⟩), .int .i64 1, .string ⟨#[97]⟩, .int .i64 3, .string other] wx fun e w' => e = .returned (.int .i64 0) ∧ PS w w' A (moF q nm.data.toList other.data.toList)) ∧
          (∀ wx, PS w wx A (moF q nm.data.toList other.data.toList) → Calls Try.prog 23 #[.pointer (some ⟨A, 0, none⟩), .int .i64 1, .string ⟨#[98]⟩, .int .i64 2, .string ⟨#[121]⟩] wx fun e w' => e = .returned (.int .i64 8) ∧ PS w w' A (moF q nm.data.toList other.data.toList)) := by
        intro other h1 h2 h3
        have hs2 : Sound (moF q nm.data.toList other.data.toList) := by
          have := sound_move hso 1 [97] 3 other.data.toList
          rw [mo_into q nm.data.toList hso h1 h3] at this
          exact this
        exact ⟨fun wx hp => ps_move_at hp hso 1 2 ⟨#[97]⟩ other (by decide) h2 (mo_self q _ h1) (cz := 8) rfl, fun wx hp => ps_move_at hp hso 1 3 ⟨#[97]⟩ other (by decide) h2 (mo_into q _ hso h1 h3) (cz := 0) rfl, fun wx hp => ps_move_at hp hs2 1 2 ⟨#[98]⟩ ⟨#[121]⟩ (by decide) (by decide) (mo_back q _ _) (cz := 8) rfl⟩
      have HMain := Lib.hid main
      have HP := Lib.hid hp
      have hil' : ia.links = 1 := hil
      clear main hso hnk hst hia hp
      by_cases k0 : (k : Int) < n0
      · by_cases k1 : (k : Int) < n1
        · have k2 : k = 50 := by omega
          subst k2
          clear hlt
          cases q1 : (nm.toList == [120])
          · obtain ⟨m1, m2, m3⟩ := HMain.out ⟨#[120]⟩ (by decide) (by decide) (by rw [← Hst.out]; exact ne_of_beq_false q1)
            have M1 := Lib.hid m1
            have M2 := Lib.hid m2
            have M3 := Lib.hid m3
            clear m1 m2 m3
            go_wp2_with (first
              | (go_at_call 17; refine (HS2.out _ HP.out).mono ?_; rintro e w2 ⟨rfl, p2, b2⟩)
              | (go_at_call 23; (with_reducible refine (M1.out _ (p2.alloc _)).mono ?_); rintro e w3 ⟨rfl, p3⟩)
              | (go_at_call 23; (with_reducible refine (M2.out _ p3).mono ?_); rintro e w4 ⟨rfl, p4⟩)
              | (go_at_call 23; (with_reducible refine (M3.out _ p4).mono ?_); rintro e w5 ⟨rfl, p5⟩))
            go_ret
            exact ⟨rfl, p5.below⟩
          · have hx : nm.data.toList = [120] := by rw [← Hst.out]; exact eq_of_beq q1
            obtain ⟨m1, m2, m3⟩ := HMain.out ⟨#[122]⟩ (by decide) (by decide) (by rw [hx]; decide)
            have M1 := Lib.hid m1
            have M2 := Lib.hid m2
            have M3 := Lib.hid m3
            clear m1 m2 m3 hx
            go_wp2_with (first
              | (go_at_call 17; refine (HS2.out _ HP.out).mono ?_; rintro e w2 ⟨rfl, p2, b2⟩)
              | (go_at_call 23; (with_reducible refine (M1.out _ (p2.alloc _)).mono ?_); rintro e w3 ⟨rfl, p3⟩)
              | (go_at_call 23; (with_reducible refine (M2.out _ p3).mono ?_); rintro e w4 ⟨rfl, p4⟩)
              | (go_at_call 23; (with_reducible refine (M3.out _ p4).mono ?_); rintro e w5 ⟨rfl, p5⟩))
            go_ret
            exact ⟨rfl, p5.below⟩
        · clear hlt
          cases q1 : (nm.toList == [120])
          · obtain ⟨m1, m2, m3⟩ := HMain.out ⟨#[120]⟩ (by decide) (by decide) (by rw [← Hst.out]; exact ne_of_beq_false q1)
            have M1 := Lib.hid m1
            have M2 := Lib.hid m2
            have M3 := Lib.hid m3
            clear m1 m2 m3
            go_wp2_with (first
              | (go_at_call 17; refine (HS2.out _ HP.out).mono ?_; rintro e w2 ⟨rfl, p2, b2⟩)
              | (go_at_call 23; (with_reducible refine (M1.out _ (p2.alloc _)).mono ?_); rintro e w3 ⟨rfl, p3⟩)
              | (go_at_call 23; (with_reducible refine (M2.out _ p3).mono ?_); rintro e w4 ⟨rfl, p4⟩)
              | (go_at_call 23; (with_reducible refine (M3.out _ p4).mono ?_); rintro e w5 ⟨rfl, p5⟩))
            go_ret
            exact ⟨rfl, p5.below⟩
          · have hx : nm.data.toList = [120] := by rw [← Hst.out]; exact eq_of_beq q1
            obtain ⟨m1, m2, m3⟩ := HMain.out ⟨#[122]⟩ (by decide) (by decide) (by rw [hx]; decide)
            have M1 := Lib.hid m1
            have M2 := Lib.hid m2
            have M3 := Lib.hid m3
            clear m1 m2 m3 hx
            go_wp2_with (first
              | (go_at_call 17; refine (HS2.out _ HP.out).mono ?_; rintro e w2 ⟨rfl, p2, b2⟩)
              | (go_at_call 23; (with_reducible refine (M1.out _ (p2.alloc _)).mono ?_); rintro e w3 ⟨rfl, p3⟩)
              | (go_at_call 23; (with_reducible refine (M2.out _ p3).mono ?_); rintro e w4 ⟨rfl, p4⟩)
              | (go_at_call 23; (with_reducible refine (M3.out _ p4).mono ?_); rintro e w5 ⟨rfl, p5⟩))
            go_ret
            exact ⟨rfl, p5.below⟩
      · clear hlt
        cases q1 : (nm.toList == [120])
        · obtain ⟨m1, m2, m3⟩ := HMain.out ⟨#[120]⟩ (by decide) (by decide) (by rw [← Hst.out]; exact ne_of_beq_false q1)
          have M1 := Lib.hid m1
          have M2 := Lib.hid m2
          have M3 := Lib.hid m3
          clear m1 m2 m3
          go_wp2_with (first
            | (go_at_call 17; refine (HS2.out _ HP.out).mono ?_; rintro e w2 ⟨rfl, p2, b2⟩)
            | (go_at_call 23; (with_reducible refine (M1.out _ (p2.alloc _)).mono ?_); rintro e w3 ⟨rfl, p3⟩)
            | (go_at_call 23; (with_reducible refine (M2.out _ p3).mono ?_); rintro e w4 ⟨rfl, p4⟩)
            | (go_at_call 23; (with_reducible refine (M3.out _ p4).mono ?_); rintro e w5 ⟨rfl, p5⟩))
          go_ret
          exact ⟨rfl, p5.below⟩
        · have hx : nm.data.toList = [120] := by rw [← Hst.out]; exact eq_of_beq q1
          obtain ⟨m1, m2, m3⟩ := HMain.out ⟨#[122]⟩ (by decide) (by decide) (by rw [hx]; decide)
          have M1 := Lib.hid m1
          have M2 := Lib.hid m2
          have M3 := Lib.hid m3
          clear m1 m2 m3 hx
          go_wp2_with (first
            | (go_at_call 17; refine (HS2.out _ HP.out).mono ?_; rintro e w2 ⟨rfl, p2, b2⟩)
            | (go_at_call 23; (with_reducible refine (M1.out _ (p2.alloc _)).mono ?_); rintro e w3 ⟨rfl, p3⟩)
            | (go_at_call 23; (with_reducible refine (M2.out _ p3).mono ?_); rintro e w4 ⟨rfl, p4⟩)
            | (go_at_call 23; (with_reducible refine (M3.out _ p4).mono ?_); rintro e w5 ⟨rfl, p5⟩))
          go_ret
          exact ⟨rfl, p5.below⟩
end Go.Proofs.Ytakceopobgommaa
