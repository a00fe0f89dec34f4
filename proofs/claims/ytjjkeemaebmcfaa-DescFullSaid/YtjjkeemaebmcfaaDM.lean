/- The walk of DescFull. -/
import Derived.Test.YtjjkeemaebmcfaaDL
namespace Go.Proofs.Ytjjkeemaebmcfaa
open Go.RowKit
set_option linter.unusedVariables false
set_option linter.unusedSimpArgs false
variable {w0 W W' : World} {P B : Nat} {e : Tab}

def fE (i : Nat) (n : Nat) : Ent := ⟨1, i, 0, false, 0, n⟩
def fT (k : Nat) : Tab := fun i => if i < k then fE i 1 else Ent.zero
theorem ff_eq {e : Tab} {k : Nat} (h1 : ∀ i, i < k → ¬ (e i).n = 0) (h2 : k < 60 → (e k).n = 0) (hk : k ≤ 60) : ff e = k := by
  have key : ∀ j, j ≤ k → ffr e 60 = ffr e (60 - j) := by
    intro j
    induction j with
    | zero => intro _; rfl
    | succ j ih =>
      intro hj
      rw [ih (by omega), ffr_step e (by omega), if_neg (h1 j (by omega))]
  have h3 := key k (Nat.le_refl _)
  unfold ff
  rw [h3]
  by_cases hlt : k < 60
  · rw [ffr_step e hlt, if_pos (h2 hlt)]
  · obtain rfl : k = 60 := by omega
    rfl
theorem fT_ff {k : Nat} (hk : k ≤ 60) : ff (fT k) = k :=
  ff_eq (fun i hi => by unfold fT; rw [if_pos hi]; simp [fE]) (fun _ => by unfold fT; rw [if_neg (Nat.lt_irrefl k)]; rfl) hk
theorem fT_open {k : Nat} (hk : k < 60) : openN (fT k) (fE k 0) = k ∧ openX (fT k) (fE k 0) = 0 ∧ openT (fT k) (fE k 0) = fT (k + 1) := by
  obtain ⟨q1, q2, q3⟩ := open_at (e := fT k) (d := fE k 0) rfl hk (fT_ff (by omega))
  refine ⟨q1, q2, q3.trans ?_⟩
  funext i
  unfold upd fT
  by_cases e : i = k
  · subst e; rw [if_pos rfl, if_pos (Nat.lt_succ_self i)]; rfl
  · rw [if_neg e]
    by_cases e2 : i < k
    · rw [if_pos e2, if_pos (by omega)]
    · rw [if_neg e2, if_neg (by omega)]
def FX : Ent := ⟨1, 0, 0, false, 0, 0⟩
def FY : Ent := ⟨3, 0, 0, false, 0, 0⟩
/-- sixty, the k-th held these many times. -/
def hT (k n : Nat) : Tab := upd (fT 60) k (fE k n)
theorem hT_one {k : Nat} (hk : k < 60) : fT 60 = hT k 1 := by
  funext i
  unfold hT upd fT
  by_cases e : i = k
  · subst e; rw [if_pos rfl, if_pos hk]
  · rw [if_neg e]
theorem hT_at (k n : Nat) : hT k n k = fE k n := upd_at _ _ _
theorem hT_is {k n : Nat} (hk : k < 60) : isE (hT k n) (k : Int) = decide (0 < n) := by
  simp [isE, hT_at, fE]
  omega
theorem hT_hold {k n : Nat} (hk : k < 60) (hn : 0 < n) : holdT (hT k n) (k : Int) = hT k (n + 1) := by
  unfold holdT
  rw [hT_is hk, decide_eq_true hn, if_pos rfl, Int.toNat_natCast, hT_at]
  unfold hT
  rw [upd_upd]; rfl
theorem hT_drop {k n : Nat} (hk : k < 60) (hn : 1 < n) : dropB (hT k n) (k : Int) = false ∧ dropP (hT k n) (k : Int) = hT k (n - 1) := by
  have h1 : isE (hT k n) (k : Int) = true := by rw [hT_is hk]; exact decide_eq_true (by omega)
  have h2 : dropB (hT k n) (k : Int) = false := by
    unfold dropB
    rw [h1, Int.toNat_natCast, hT_at]
    exact decide_eq_false (show ¬ n = 1 by omega)
  refine ⟨h2, ?_⟩
  unfold dropP decT
  rw [h1, h2, Int.toNat_natCast, hT_at]
  simp only [if_true, Bool.false_eq_true, if_false]
  unfold hT
  rw [upd_upd]; rfl
theorem hT_last {k : Nat} (hk : k < 60) : dropB (hT k 1) (k : Int) = true ∧ dropA (hT k 1) (k : Int) = fE k 1 ∧ dropP (hT k 1) (k : Int) = upd (fT 60) k Ent.zero := by
  have h1 : isE (hT k 1) (k : Int) = true := by rw [hT_is hk]; rfl
  have h2 : dropB (hT k 1) (k : Int) = true := by
    unfold dropB
    rw [h1, Int.toNat_natCast, hT_at]; rfl
  refine ⟨h2, ?_, ?_⟩
  · unfold dropA
    rw [h2, Int.toNat_natCast, hT_at]; rfl
  · unfold dropP
    rw [h1, h2, Int.toNat_natCast]
    simp only [if_true]
    unfold hT
    rw [upd_upd]
theorem eT_is {k : Nat} (hk : k < 60) : isE (upd (fT 60) k Ent.zero) (k : Int) = false := by
  simp [isE, upd_at, Ent.zero]
theorem eT_ff {k : Nat} (hk : k < 60) : ff (upd (fT 60) k Ent.zero) = k :=
  ff_eq (fun i hi => by rw [upd_ne _ _ (by omega)]; unfold fT; rw [if_pos (by omega)]; simp [fE]) (fun _ => by rw [upd_at]; rfl) (by omega)
theorem fu_open {k : Nat} (hk : k < 60) (p : PT w0 W P (fT k)) : Calls Try.prog 10 #[.pointer (some ⟨P, 0, none⟩), .agg #[.int .i64 1, .int .i64 (k : Nat), .int .i64 0, .bool false, .int .i64 0]] W (okSh w0 P (.tuple #[.int .i64 (k : Nat), .int .i64 0]) (fT (k + 1))) :=
  (pt_open (fE k 0) p).mono fun r w' h => by rw [(fT_open hk).1, (fT_open hk).2.1, (fT_open hk).2.2] at h; exact h
theorem fu_full (p : PT w0 W P (fT 60)) : Calls Try.prog 10 #[.pointer (some ⟨P, 0, none⟩), .agg #[.int .i64 1, .int .i64 0, .int .i64 0, .bool false, .int .i64 0]] W (okSh w0 P (.tuple #[.int .i64 0, .int .i64 12]) (fT 60)) :=
  (pt_open FX p).mono fun r w' h => by
    obtain ⟨q1, q2, q3⟩ := open_full (e := fT 60) (d := FX) rfl (fT_ff (Nat.le_refl _))
    rw [q1, q2, q3] at h; exact h
theorem fu_hold {k n : Nat} (hk : k < 60) (hn : 0 < n) (hb : n < 1000) (p : PT w0 W P (hT k n)) : Calls Try.prog 14 #[.pointer (some ⟨P, 0, none⟩), .int .i64 (k : Nat)] W (okSh w0 P (.bool true) (hT k (n + 1))) :=
  (pt_hold (k : Int) p (by rw [Int.toNat_natCast, hT_at]; show n < _; omega)).mono fun r w' h => by
    rw [hT_is hk, decide_eq_true hn, hT_hold hk hn] at h; exact h
theorem fu_drop {k n : Nat} (hk : k < 60) (hn : 1 < n) (hb : n < 1000) (p : PT w0 W P (hT k n)) : Calls Try.prog 16 #[.pointer (some ⟨P, 0, none⟩), .int .i64 (k : Nat)] W fun r w' => ∃ d : Ent, r = .returned (.tuple #[.agg d.desc.toArray, .bool false]) ∧ PT w0 w' P (hT k (n - 1)) :=
  (pt_drop (k : Int) p (by rw [Int.toNat_natCast, hT_at]; show n < _; omega)).mono fun r w' h => by
    rw [(hT_drop hk hn).1, (hT_drop hk hn).2] at h; exact ⟨_, h⟩
theorem fu_last {k : Nat} (hk : k < 60) (p : PT w0 W P (hT k 1)) : Calls Try.prog 16 #[.pointer (some ⟨P, 0, none⟩), .int .i64 (k : Nat)] W (okSh w0 P (.tuple #[.agg #[.int .i64 1, .int .i64 (k : Nat), .int .i64 0, .bool false, .int .i64 0], .bool true]) (upd (fT 60) k Ent.zero)) :=
  (pt_drop (k : Int) p (by rw [Int.toNat_natCast, hT_at]; show 1 < _; decide)).mono fun r w' h => by
    rw [(hT_last hk).1, (hT_last hk).2.1, (hT_last hk).2.2] at h; exact h
theorem fu_held {k n : Nat} (hk : k < 60) (hn : 0 < n) (p : PT w0 W P (hT k n)) : Calls Try.prog 20 #[.pointer (some ⟨P, 0, none⟩), .int .i64 (k : Nat)] W fun r w' => r = .returned (.int .i64 (n : Nat)) ∧ W = w' :=
  (pt_held (k : Int) p).mono fun r w' h => by
    unfold heldA at h
    rw [hT_is hk, decide_eq_true hn, if_pos rfl, Int.toNat_natCast, hT_at] at h; exact h
theorem fu_get {k : Nat} (hk : k < 60) (p : PT w0 W P (upd (fT 60) k Ent.zero)) : Calls Try.prog 18 #[.pointer (some ⟨P, 0, none⟩), .int .i64 (k : Nat)] W fun r w' => ∃ d : Ent, r = .returned (.tuple #[.agg d.desc.toArray, .bool false]) ∧ PT w0 w' P (upd (fT 60) k Ent.zero) ∧ Fr (fun _ => False) W w' :=
  (pt_get (k : Int) p).mono fun r w' h => by
    rw [eT_is hk] at h; exact ⟨_, h⟩
theorem fu_anew {k : Nat} (hk : k < 60) (p : PT w0 W P (upd (fT 60) k Ent.zero)) : Calls Try.prog 10 #[.pointer (some ⟨P, 0, none⟩), .agg #[.int .i64 3, .int .i64 0, .int .i64 0, .bool false, .int .i64 0]] W fun r w' => r = .returned (.tuple #[.int .i64 (k : Nat), .int .i64 0]) ∧ PT w0 w' P (openT (upd (fT 60) k Ent.zero) FY) ∧ Fr (· = P) W w' :=
  (popen_any FY W p.t).mono fun r w' ⟨h1, h2, h3⟩ => by
    obtain ⟨q1, q2, q3⟩ := open_at (e := upd (fT 60) k Ent.zero) (d := FY) rfl hk (eT_ff hk)
    rw [q1, q2] at h1
    exact ⟨h1, p.step h2 h3, h3⟩
def fuRel1 (w : World) (P : Nat) (iv : Value) (wr : World) : Prop := ∃ k : Nat, iv = .int .i64 k ∧ k ≤ 60 ∧ PT w wr P (fT k)
def fuRel2 (w : World) (P m h : Nat) (iv : Value) (wr : World) : Prop := ∃ k : Nat, iv = .int .i64 k ∧ k ≤ h ∧ PT w wr P (hT m (1 + k))
def fuRel3 (w : World) (P m h : Nat) (iv : Value) (wr : World) : Prop := ∃ k : Nat, iv = .int .i64 k ∧ k ≤ h ∧ PT w wr P (hT m (1 + (h - k)))
set_option maxHeartbeats 4000000 in
set_option maxRecDepth 100000 in
theorem full_any (a b : Int) (w : World) (ha : (Lit.int .i64 a).wf = true) (hb : (Lit.int .i64 b).wf = true) :
    Calls Try.prog 5 #[.int .i64 a, .int .i64 b] w fun r w' => r = .returned (.bool true) ∧ Below w.heap.size w w' := by
  have ha2 := int_wf2 ha
  obtain ⟨h, hh', h15⟩ := and_le b 15 (by decide)
  have hh : bits .and .i64 b 15 = (h : Int) := hh'
  clear hh' ha hb
  obtain ⟨q, hq⟩ : ∃ q : Nat, (0 ≤ a ∧ a = (q : Int)) ∨ (a < 0 ∧ -(a + 1) = (q : Int)) := by
    by_cases h0 : 0 ≤ a
    · exact ⟨a.toNat, .inl ⟨h0, by omega⟩⟩
    · exact ⟨(-(a + 1)).toNat, .inr ⟨by omega, by omega⟩⟩
  obtain ⟨m, hm⟩ : ∃ m : Nat, m = q % 60 := ⟨_, rfl⟩
  have hm60 : m < 60 := by omega
  have ht : Int.tmod (q : Int) 60 = (m : Int) := by
    rw [hm, Int.tmod_eq_emod_of_nonneg (by omega)]; omega
  clear hm
  go_enter Try.func5, Try.ntmps5
  go_wp2_with fail
  refine (shown_any w).mono ?_
  rintro r w1 ⟨rfl, b1⟩
  go_wp2_with fail
  refine (pt_new b1).mono ?_
  rintro r w2 ⟨P, rfl, p2⟩
  clear b1
  have START := Lib.hid (show fuRel1 w P (.int .i64 0) w2 from ⟨0, rfl, by decide, p2⟩)
  clear p2
  go_wp2
  go_loopw [7] (fun iv wr => fuRel1 w P iv wr) (fun iv _ => 60 - (intOf iv).toNat)
  case atStart => exact START.out
  case round =>
    clear START
    obtain ⟨k, rfl, hk, hp⟩ := hrel
    by_cases hlt : k < 60
    · go_wp2_with fail
      refine (fu_open hlt hp).mono ?_
      rintro r w3 ⟨rfl, p3⟩
      clear hp
      have P3 := Lib.hid p3
      clear p3
      go_wp2
      go_roundw
      case rel => exact ⟨k + 1, by go_num, by omega, P3.out⟩
      case measure => simp [intOf]; omega
    · obtain rfl : k = 60 := by omega
      go_wp2_with fail
      refine (fu_full hp).mono ?_
      rintro r w3 ⟨rfl, p3⟩
      rw [hT_one hm60] at p3
      have START := Lib.hid (show fuRel2 w P m h (.int .i64 0) w3 from ⟨0, rfl, by omega, p3⟩)
      clear hp p3
      rcases hq with ⟨hq1, rfl⟩ | ⟨hq1, hq2⟩
      all_goals
        go_wp2
        go_loopw [13] (fun iv wr => fuRel2 w P m h iv wr) (fun iv _ => h - (intOf iv).toNat)
        case atStart => exact START.out
        case round =>
          clear START
          obtain ⟨k, rfl, hk, hp⟩ := hrel
          by_cases hlt2 : k < h
          · go_wp2_with fail
            refine (fu_hold hm60 (by omega) (by omega) hp).mono ?_
            rintro r w4 ⟨rfl, p4⟩
            clear hp
            have P4 := Lib.hid p4
            clear p4
            go_wp2
            go_roundw
            case rel => exact ⟨k + 1, by go_num, by omega, P4.out⟩
            case measure => simp [intOf]; omega
          · obtain rfl : k = h := by omega
            have START := Lib.hid (show fuRel3 w P m k (.int .i64 0) wr from ⟨0, rfl, by omega, hp⟩)
            clear hp
            go_wp2
            go_loopw [14] (fun iv wr => fuRel3 w P m k iv wr) (fun iv _ => k - (intOf iv).toNat)
            case atStart => exact START.out
            case round =>
              clear START
              obtain ⟨j, rfl, hj, hp⟩ := hrel
              by_cases hlt3 : j < k
              · go_wp2_with fail
                refine (fu_drop hm60 (show 1 < 1 + (k - j) by omega) (by omega) hp).mono ?_
                rintro r w5 ⟨⟨d0, d1, d2, d3, d4, d5⟩, rfl, p5⟩
                clear hp
                rw [show 1 + (k - j) - 1 = k - j by omega] at p5
                have P5 := Lib.hid (p5.same ((Fr.refl _ _).alloc (.cells (Ent.mk d0 d1 d2 d3 d4 d5).desc.toArray 28)))
                clear p5
                have hd : (Ent.mk d0 d1 d2 d3 d4 d5).desc.toArray = #[.int .i64 d0, .int .i64 d1, .int .i64 d2, .bool d3, .int .i64 d4] := rfl
                rw [hd] at P5 ⊢
                clear hd
                go_wp2_with fail
                refine (fu_held hm60 (show 0 < k - j by omega) P5.out).mono ?_
                rintro r w6 ⟨rfl, rfl⟩
                have hs : ((k : Int) - (j : Int)) = ((k - j : Nat) : Int) := by omega
                have hr : 1 + (k - (j + 1)) = k - j := by omega
                rw [← hr] at P5
                have P6 := Lib.hid P5.out
                clear P5
                rw [hr] at P6
                go_wp2
                go_roundw
                case rel => exact ⟨j + 1, by go_num, by omega, by rw [hr]; exact P6.out⟩
                case measure => simp [intOf]; omega
              · obtain rfl : j = k := by omega
                rw [Nat.sub_self, Nat.add_zero] at hp
                go_wp2_with fail
                refine (fu_last hm60 hp).mono ?_
                rintro r w5 ⟨rfl, p5⟩
                clear hp
                go_wp2_with fail
                have y1 := lay_desc w5 28 (fE m 1) 1 (.int .i64 (m : Nat)) rfl
                have y2 : w5.heap.size < (w5.alloc (.cells (fE m 1).desc.toArray 28)).heap.size := by simp
                have yP : w5.heap.size ≠ P := fun e => by have := p5.t.lt; omega
                refine (fu_get hm60 (p5.same ((Fr.refl _ _).alloc _))).mono ?_
                rintro r w6 ⟨⟨d0, d1, d2, d3, d4, d5⟩, rfl, p6, f6⟩
                replace y1 := f6.cell y1 id
                replace y2 := Nat.lt_of_lt_of_le y2 f6.size
                clear p5 f6
                have hd : (Ent.mk d0 d1 d2 d3 d4 d5).desc.toArray = #[.int .i64 d0, .int .i64 d1, .int .i64 d2, .bool d3, .int .i64 d4] := rfl
                rw [hd]
                go_wp2_with fail
                refine (fu_anew hm60 (p6.same ((Fr.refl _ _).alloc _))).mono ?_
                rintro r w7 ⟨rfl, p7, f7⟩
                have y3 := f7.cell (Fr.cell (S := fun _ => False) ((Fr.refl _ _).alloc _) y1 id) yP
                have B7 := Lib.hid p7.bel
                clear p6 p7 f7 y1 y2
                go_wp2
                go_ret
                exact ⟨rfl, B7.out⟩
end Go.Proofs.Ytjjkeemaebmcfaa
