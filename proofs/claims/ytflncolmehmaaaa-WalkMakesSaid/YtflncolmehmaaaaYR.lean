/- The walk of WalkMakes. -/
import Derived.Test.YtflncolmehmaaaaYQ
import Derived.Test.YtflncolmehmaaaaM18
import Derived.Test.YtflncolmehmaaaaM10
namespace Go.Proofs.Ytflncolmehmaaaa
open Go.RowKit Ino Go.Maps Pa
open Mo (mayB)
set_option linter.unusedVariables false
set_option linter.unusedSimpArgs false
variable {w0 w w' : World} {A n G : Nat} {t u : T} {L : Nat → Prop} {U M : Int} {l : List Bs}

/-- the credentials lie here. -/
def CU (W : World) (G : Nat) (U : Int) : Prop := W.cell? ⟨G, 0, none⟩ = some (.int .i64 U) ∧ W.cell? ⟨G, 1, none⟩ = some (.int .i64 U) ∧ W.cell? ⟨G, 2, none⟩ = some (.int .i64 U) ∧ W.cell? ⟨G, 3, none⟩ = some (.int .i64 9) ∧ W.cell? ⟨G, 4, none⟩ = some (.int .i64 9)
theorem CU.kp (h : CU w G U) (k : Kp L w w') (hL : L G) : CU w' G U := ⟨k.cell hL h.1, k.cell hL h.2.1, k.cell hL h.2.2.1, k.cell hL h.2.2.2.1, k.cell hL h.2.2.2.2⟩
theorem CU.up (h : CU w G U) (b : Below w.heap.size w w') : CU w' G U := ⟨up1 h.1 b, up1 h.2.1 b, up1 h.2.2.1 b, up1 h.2.2.2.1 b, up1 h.2.2.2.2 b⟩
theorem mk_mkdir {nm : Bs} (p : WL L w0 w A t n) (hn : n ≤ 100) (h : Chn U M l t) (hl : ∀ m ∈ l, nameOk m = true) (hl3 : l.length ≤ 3) (hno : nameOk nm = true) (hr : Rts U M) (hM : wfI M) (s : ByteArray) (hs : s.size ≤ maxLen) (hd : s.data.toList = pth (l ++ [nm])) :
    Calls Try.prog 17 #[.pointer (some ⟨A, 0, none⟩), .int .i64 1, crd U U U 9 9, .string s, .int .i64 M] w fun e w' => e = .returned (.int .i64 0) ∧ ∃ t', WL L w0 w' A t' (n + 1) ∧ Chn U M (l ++ [nm]) t' ∧ Kp L w w' := by
  have := wl_mkdir p (by omega) 1 U U U 9 9 s hs M hM
  obtain ⟨h1, h2⟩ := h.step hl hl3 hno hr
  rw [hd, h1] at this
  exact this.mono fun e w' k => ⟨k.1, _, k.2.1, h2, k.2.2⟩
theorem mk_again {nm : Bs} (p : WL L w0 w A t n) (hn : n ≤ 100) (h : Chn U M (l ++ [nm]) t) (hl : ∀ m ∈ l ++ [nm], nameOk m = true) (hl3 : l.length ≤ 3) (hr : Rts U M) (hM : wfI M) (s : ByteArray) (hs : s.size ≤ maxLen) (hd : s.data.toList = pth (l ++ [nm])) :
    Calls Try.prog 17 #[.pointer (some ⟨A, 0, none⟩), .int .i64 1, crd U U U 9 9, .string s, .int .i64 M] w fun e w' => e = .returned (.int .i64 5) ∧ WL L w0 w' A t (n + 1) ∧ Kp L w w' := by
  have := wl_mkdir p (by omega) 1 U U U 9 9 s hs M hM
  rw [hd, h.again hl hl3 hr] at this
  exact this
theorem mk_find (p : WL L w0 w A t n) (h : Chn U M l t) (hl : ∀ m ∈ l, nameOk m = true) (hl4 : l.length ≤ 4) (hr : Rts U M) (s : ByteArray) (hs : s.size ≤ maxLen) (hd : s.data.toList = pth l ++ [47]) :
    Calls Try.prog 18 #[.pointer (some ⟨A, 0, none⟩), .int .i64 1, crd U U U 9 9, .string s] w fun e w' => e = .returned (.tuple #[.int .i64 ((l.length + 1 : Nat) : Int), .int .i64 0]) ∧ WL L w0 w' A t n ∧ Kp L w w' := by
  have := wl_find p 1 U U U 9 9 s hs
  rw [hd, h.found hl hl4 [] (.inl rfl) hr.root1 hr.own1] at this
  exact this.mono fun e w' k => ⟨k.1, k.2.1, k.2.2.2⟩
theorem mk_else (p : WL L w0 w A t n) (h : Chn U M l t) (hl : ∀ m ∈ l, nameOk m = true) (hl4 : l.length ≤ 4) (hl1 : 1 ≤ l.length) {V : Int} (h1 : mayB 511 0 0 true V 8 1 = true) {e : Bool} (h2 : mayB M U 9 true V 8 1 = e) (s : ByteArray) (hs : s.size ≤ maxLen) (hd : s.data.toList = pth l ++ [47, 46]) :
    Calls Try.prog 18 #[.pointer (some ⟨A, 0, none⟩), .int .i64 1, crd V V V 8 8, .string s] w fun r w' => (∃ x y : Int, r = .returned (.tuple #[.int .i64 x, .int .i64 y]) ∧ (2 ≤ l.length → (y == 0) = e)) ∧ WL L w0 w' A t n ∧ Kp L w w' := by
  have := wl_find p 1 V V V 8 8 s hs
  rw [hd] at this
  refine this.mono fun r w' k => ⟨?_, k.2.1, k.2.2.2⟩
  by_cases hl2 : 2 ≤ l.length
  · cases e
    · rw [h.barred hl hl4 hl2 h1 h2] at k
      exact ⟨0, 4, k.1, fun _ => rfl⟩
    · rw [show pth l ++ [47, 46] = pth l ++ 47 :: [46] from rfl, h.found hl hl4 [46] (.inr rfl) h1 h2] at k
      exact ⟨_, 0, k.1, fun _ => rfl⟩
  · rw [h.first hl (by omega) h1] at k
    exact ⟨2, 0, k.1, fun q => absurd q hl2⟩
theorem mk_stat (p : WL L w0 w A t n) (h : Chn U M l t) (hl1 : 1 ≤ l.length) :
    Calls Try.prog 13 #[.pointer (some ⟨A, 0, none⟩), .int .i64 ((l.length + 1 : Nat) : Int)] w fun e w' => ∃ x y z : Int, e = .returned (.tuple #[.agg #[.int .i64 ((l.length + 1 : Nat) : Int), .int .i64 1, .int .i64 M, .int .i64 U, .int .i64 9, .int .i64 x, .int .i64 y, .int .i64 z], .bool true]) ∧ WL L w0 w' A t n ∧ Kp L w w' := by
  have := wl_stat p ((l.length + 1 : Nat) : Int)
  have hI : isI t ((l.length + 1 : Nat) : Int) = true := by rw [isI_cast h.s.sd]; exact h.is_ _ (by omega) (Nat.le_refl _)
  rw [Ino.stat_inf hI] at this
  unfold infT at this
  obtain ⟨a, b, c⟩ := h.own (l.length + 1) (by omega) (Nat.le_refl _)
  rw [a, b, c, h.kind (l.length + 1) (by omega) (Nat.le_refl _)] at this
  exact this.mono fun e w' k => ⟨_, _, _, k.1, k.2.1, k.2.2.1⟩
/-- behind k names. -/
def chRel (w : World) (A G : Nat) (U M : Int) (sv iv : Value) (W : World) : Prop :=
  ∃ (l : List Bs) (s : ByteArray) (t : T) (n : Nat), iv = .int .i64 (l.length : Nat) ∧ sv = .string s ∧ s.data.toList = pth l ∧ l.length ≤ 4 ∧ (∀ m ∈ l, nameOk m = true) ∧ Chn U M l t ∧ WL (· = G) w W A t n ∧ n ≤ 2 * l.length ∧ CU W G U
set_option maxHeartbeats 4000000 in
set_option maxRecDepth 100000 in
theorem makes7_any (p0 : Option Addr) (n0 c0 : Nat) (z0 : List ByteArray) (a b : Int) (w : World) (h0 : InStrs w p0 n0 z0) (l0 : n0 ≤ maxLen) (wa : (Lit.int .i64 a).wf = true) (wb : (Lit.int .i64 b).wf = true) :
    Calls Try.prog 4 #[.slice p0 n0 c0, .int .i64 a, .int .i64 b] w fun e w' => e = .returned (.bool true) ∧ Below w.heap.size w w' := by
  have H0 := Lib.hid h0
  unfold maxLen at l0
  clear h0 wa wb
  obtain ⟨r, hr', hr⟩ := and_le7 a 255 (by decide)
  obtain ⟨q, hq', hq⟩ := and_le7 b 63 (by decide)
  have ha : bits .and .i64 a 255 = (r : Int) := hr'
  have hb : bits .and .i64 b 63 = (q : Int) := hq'
  have hor := or_q hq
  have RTS := Lib.hid (rts_q (q := q) (r := r) hq hr)
  have MEL := Lib.hid (may_else (q := q) hq ((1 + r : Nat) : Int) (((1 + r : Nat) : Int) + 1) (by omega) (by omega))
  have MRT := Lib.hid (may_root (((1 + r : Nat) : Int) + 1) 8 1 (by omega) (.inl rfl))
  have hMw : wfI ((448 + q : Nat) : Int) := by unfold wfI; omega
  have hU : (1 + (r : Int)) = ((1 + r : Nat) : Int) := by omega
  have hMb : (448 + q) ≤ 511 := by omega
  have hUb : (1 + r) ≤ 256 := by omega
  clear hr' hq'
  generalize hM2 : 448 + q = Mn at *
  generalize hU2 : 1 + r = Un at *
  clear hM2 hU2 hq hr
  go_enter Try.func4, Try.ntmps4
  go_wp2_with fail
  refine (shown7_any w).mono ?_
  rintro e w1 ⟨rfl, b1⟩
  go_wp2_with fail
  refine (wp_new b1 511 0 0 (by unfold wfI; omega) (by decide)).mono ?_
  rintro e w2 ⟨A, rfl, p2⟩
  clear b1
  go_wp2_with fail
  refine (who_any _ _ _).mono ?_
  rintro e w3 ⟨rfl, b3⟩
  have p3 := (p2.kept.read b3).more (bel1 w3 (.cells #[.int .i64 (Un : Nat), .int .i64 (Un : Nat), .int .i64 (Un : Nat), .int .i64 9, .int .i64 9] 43))
  have P3 : WL (· = w3.heap.size) w (w3.alloc (.cells #[.int .i64 (Un : Nat), .int .i64 (Un : Nat), .int .i64 (Un : Nat), .int .i64 9, .int .i64 9] 43)) A (Ino.newP 511 0 0) 0 := p3.weak (fun g hg => .inr ⟨by omega, by subst hg; simp⟩)
  have C3 : CU (w3.alloc (.cells #[.int .i64 (Un : Nat), .int .i64 (Un : Nat), .int .i64 (Un : Nat), .int .i64 9, .int .i64 9] 43)) w3.heap.size (Un : Nat) := ⟨top_cell _ _ _ rfl, top_cell _ _ _ rfl, top_cell _ _ _ rfl, top_cell _ _ _ rfl, top_cell _ _ _ rfl⟩
  have START := Lib.hid (show chRel w A w3.heap.size (Un : Nat) (Mn : Nat) (.string ⟨#[]⟩) (.int .i64 0) (w3.alloc (.cells #[.int .i64 (Un : Nat), .int .i64 (Un : Nat), .int .i64 (Un : Nat), .int .i64 9, .int .i64 9] 43)) from ⟨[], ⟨#[]⟩, _, 0, rfl, rfl, rfl, by decide, by simp, chn_new, P3, by decide, C3⟩)
  clear p2 b3 p3 P3 C3
  generalize hGG : w3.heap.size = G at *
  go_wp2_with fail
  go_loopw [10, 11] (fun sv iv wr => chRel w A G (Un : Nat) (Mn : Nat) sv iv wr) (fun _ iv _ => 4 - (intOf iv).toNat)
  case atStart => exact START.out
  case round =>
    clear START
    obtain ⟨l, s, t, n, rfl, rfl, hsd, hl4, hno, hch, hp, hn8, hcu⟩ := hrel
    by_cases hlt : l.length < n0 ∧ l.length < 4
    · obtain ⟨k0, k2⟩ := hlt
      obtain ⟨g0, o0, rfl, hc0, hxm⟩ := H0.out.2 l.length (z0[l.length]'(by rw [H0.out.1]; exact k0)) (List.getElem?_eq_getElem _)
      generalize z0[l.length]'(by rw [H0.out.1]; exact k0) = x at hc0 hxm
      have HC := Lib.hid (fun (W : World) (p : Below w.heap.size w W) => (Below.cell p (p := ⟨g0, o0 + l.length, none⟩) (cell_lt hc0)).trans hc0)
      clear hc0
      have e0 := HC.out _ hp.below
      have HP := Lib.hid hp
      have HCU := Lib.hid hcu
      have HCH := Lib.hid hch
      have HNO := Lib.hid hno
      have HSD := Lib.hid hsd
      clear hp hcu hch hno hsd
      have hsz : s.size ≤ 60 := by
        have h1 := len_pth HNO.out
        rw [← HSD.out] at h1
        have h2 : s.data.toList.length = s.size := rfl
        omega
      have hk4 : l.length ≤ 3 := by omega
      generalize hkl : l.length = k at *
      have HKL := Lib.hid hkl
      clear hkl
      cases hnx : nameOk x.data.toList
      · have HN := fun W => pname_any x hxm W
        rw [hnx] at HN
        go_wp2_with fail
        refine (HN _).mono ?_
        rintro e w4 ⟨rfl, rfl⟩
        go_wp2
        go_ret
        exact ⟨rfl, HP.out.below⟩
      · have HN := fun W => pname_any x hxm W
        rw [hnx] at HN
        have hx14 : x.size ≤ 14 := (name_chars hnx).2.1
        go_wp2_with fail
        refine (HN _).mono ?_
        rintro e w4 ⟨rfl, rfl⟩
        clear HN
        obtain ⟨c0, c1, c2, c3, c4⟩ := HCU.out
        have hS : (s ++ ⟨#[47]⟩ ++ x).data.toList = pth (l ++ [x.data.toList]) := by
          rw [pth_snoc, ByteArray.data_append, ByteArray.data_append, Array.toList_append, Array.toList_append, HSD.out]
          simp
        have hSz : (s ++ ⟨#[47]⟩ ++ x).size ≤ 75 := by
          rw [ByteArray.size_append, ByteArray.size_append]
          have : (⟨#[47]⟩ : ByteArray).size = 1 := rfl
          omega
        go_wp2_with fail
        refine (mk_mkdir HP.out (by omega) HCH.out HNO.out (by rw [HKL.out]; exact hk4) hnx RTS.out hMw _ (by unfold maxLen; omega) hS).mono ?_
        rintro e w5 ⟨rfl, t5, p5, hch5, q5⟩
        have HNO2 := Lib.hid (show ∀ m ∈ l ++ [x.data.toList], nameOk m = true from fun m hm => (List.mem_append.1 hm).elim (HNO.out m) (fun h => by rw [List.mem_singleton.1 h]; exact hnx))
        have HL2 := Lib.hid (show (l ++ [x.data.toList]).length = k + 1 by rw [List.length_append, HKL.out]; rfl)
        have HCH5 := Lib.hid hch5
        have HP5 := Lib.hid p5
        have HCU5 := Lib.hid (HCU.out.kp q5 rfl)
        have HK3 := Lib.hid (show l.length ≤ 3 by rw [HKL.out]; exact hk4)
        have HS := Lib.hid hS
        clear hS hch5 p5 q5 HCU HP HCH HNO c0 c1 c2 c3 c4 e0
        generalize s ++ ⟨#[47]⟩ ++ x = S2 at *
        obtain ⟨c0, c1, c2, c3, c4⟩ := HCU5.out
        have hz2 : (S2 ++ ⟨#[47]⟩).size ≤ 80 := by
          rw [ByteArray.size_append]
          have : (⟨#[47]⟩ : ByteArray).size = 1 := rfl
          omega
        have hd2 : (S2 ++ ⟨#[47]⟩).data.toList = pth (l ++ [x.data.toList]) ++ [47] := by
          rw [ByteArray.data_append, Array.toList_append, HS.out]
        have HD2 := Lib.hid hd2
        clear hd2
        go_wp2_with fail
        refine (mk_find HP5.out HCH5.out HNO2.out (by rw [HL2.out]; omega) RTS.out _ (by unfold maxLen; omega) HD2.out).mono ?_
        rintro e w6 ⟨rfl, p6, q6⟩
        have HP6 := Lib.hid p6
        have HCU6 := Lib.hid (HCU5.out.kp q6 rfl)
        clear p6 q6 HP5 HCU5 c0 c1 c2 c3 c4 hz2 HD2
        have HST := Lib.hid (fun W n' (p : WL (· = G) w W A t5 n') => mk_stat p HCH5.out (by rw [HL2.out]; omega))
        rw [HL2.out] at HST
        rw [HL2.out]
        go_wp2_with fail
        refine (HST.out _ _ HP6.out).mono ?_
        rintro e w7 ⟨x1, x2, x3, rfl, p7, q7⟩
        have HCU7 := Lib.hid (HCU6.out.kp q7 rfl)
        have HP7 := Lib.hid (p7.read (bel1 w7 (.cells #[.int .i64 ((k + 1 + 1 : Nat) : Int), .int .i64 1, .int .i64 (Mn : Nat), .int .i64 (Un : Nat), .int .i64 9, .int .i64 x1, .int .i64 x2, .int .i64 x3] 38)))
        have HCU8 := Lib.hid (HCU7.out.up (bel1 w7 (.cells #[.int .i64 ((k + 1 + 1 : Nat) : Int), .int .i64 1, .int .i64 (Mn : Nat), .int .i64 (Un : Nat), .int .i64 9, .int .i64 x1, .int .i64 x2, .int .i64 x3] 38)))
        clear p7 q7 HP6 HCU6 HST HCU7
        go_wp2_with fail
        refine (who_any _ _ _).mono ?_
        rintro e w8 ⟨rfl, b8⟩
        have HP8 := Lib.hid (HP7.out.read b8)
        have HCU9 := Lib.hid (HCU8.out.up b8)
        clear b8 HP7 HCU8
        have hz3 : (S2 ++ ⟨#[47, 46]⟩).size ≤ 80 := by
          rw [ByteArray.size_append]
          have : (⟨#[47, 46]⟩ : ByteArray).size = 2 := rfl
          omega
        have hd3 : (S2 ++ ⟨#[47, 46]⟩).data.toList = pth (l ++ [x.data.toList]) ++ [47, 46] := by
          rw [ByteArray.data_append, Array.toList_append, HS.out]
        have HD3 := Lib.hid hd3
        clear hd3
        obtain ⟨be, hbe⟩ : ∃ be, (bits .and .i64 (Mn : Nat) 1 == 1) = be := ⟨_, rfl⟩
        have HBE := Lib.hid (MEL.out.trans hbe)
        go_wp2_with fail
        refine (mk_else HP8.out HCH5.out HNO2.out (by rw [HL2.out]; omega) (by rw [HL2.out]; omega) MRT.out HBE.out _ (by unfold maxLen; omega) HD3.out).mono ?_
        rintro e w9 ⟨⟨y1, y2, rfl, hy⟩, p9, q9⟩
        have HP9 := Lib.hid p9
        have HCU10 := Lib.hid (HCU9.out.kp q9 rfl)
        clear p9 q9 HP8 HCU9 hz3 HD3
        rw [HL2.out] at hy
        obtain ⟨c0, c1, c2, c3, c4⟩ := HCU10.out
        by_cases hk0 : k = 0
        · have j1 : ¬ (0 : Int) < (k : Int) := by omega
          clear hy
          go_wp2_with fail
          refine (mk_again HP9.out (by omega) HCH5.out HNO2.out HK3.out RTS.out hMw S2 (by unfold maxLen; omega) HS.out).mono ?_
          rintro e w10 ⟨rfl, p10, q10⟩
          have HP10 := Lib.hid p10
          have HCU11 := Lib.hid (HCU10.out.kp q10 rfl)
          clear p10 q10 HP9 HCU10 c0 c1 c2 c3 c4
          go_wp2
          go_roundw
          case rel => exact ⟨l ++ [x.data.toList], S2, t5, n + 1 + 1, by rw [HL2.out]; go_num, rfl, HS.out, by rw [HL2.out]; omega, HNO2.out, HCH5.out, HP10.out, by rw [HL2.out]; omega, HCU11.out⟩
          case measure => simp [intOf]; omega
        · have j1 : (0 : Int) < (k : Int) := by omega
          have hy2 := hy (by omega)
          clear hy
          go_wp2_with fail
          refine (mk_again HP9.out (by omega) HCH5.out HNO2.out HK3.out RTS.out hMw S2 (by unfold maxLen; omega) HS.out).mono ?_
          rintro e w10 ⟨rfl, p10, q10⟩
          have HP10 := Lib.hid p10
          have HCU11 := Lib.hid (HCU10.out.kp q10 rfl)
          clear p10 q10 HP9 HCU10 c0 c1 c2 c3 c4
          go_wp2
          go_roundw
          case rel => exact ⟨l ++ [x.data.toList], S2, t5, n + 1 + 1, by rw [HL2.out]; go_num, rfl, HS.out, by rw [HL2.out]; omega, HNO2.out, HCH5.out, HP10.out, by rw [HL2.out]; omega, HCU11.out⟩
          case measure => simp [intOf]; omega
    · have hbel := hp.below
      clear hp hcu hch
      by_cases hn : l.length < n0
      · have i3 : ¬ (l.length : Int) < 4 := by omega
        have i4 : (l.length : Int) < n0 := by omega
        go_wp2
        go_ret
        exact ⟨rfl, hbel⟩
      · have i4 : ¬ (l.length : Int) < n0 := by omega
        go_wp2
        go_ret
        exact ⟨rfl, hbel⟩
end Go.Proofs.Ytflncolmehmaaaa
