/- The start of a law; the walk of ProcBounds. -/
import Derived.Test.YtgbmedbkonloiaaFY
namespace Go.Proofs.Ytgbmedbkonloiaa
open Go.RowKit
set_option linter.unusedVariables false
set_option linter.unusedSimpArgs false
theorem sum_more (us : List Int) (f g : Int → Nat) (hfg : ∀ u, f u ≤ g u) : (us.map f).sum ≤ (us.map g).sum := by
  induction us with
  | nil => exact Nat.le_refl _
  | cons u r ih =>
    have := hfg u
    simp only [List.map_cons, List.sum_cons]
    omega
theorem sum_one (us : List Int) (f g : Int → Nat) (hfg : ∀ u, f u ≤ g u) (x : Int) (hx : x ∈ us) (h1 : f x + 1 ≤ g x) : (us.map f).sum + 1 ≤ (us.map g).sum := by
  induction us with
  | nil => cases hx
  | cons u r ih =>
    simp only [List.map_cons, List.sum_cons]
    rcases List.mem_cons.1 hx with e | e
    · subst e
      have := sum_more r f g hfg
      omega
    · have := ih e
      have := hfg u
      omega
theorem sum_le (us : List Int) (f : Int → Nat) (b : Nat) (h : ∀ u, f u ≤ b) : (us.map f).sum ≤ us.length * b := by
  induction us with
  | nil => simp
  | cons u r ih =>
    have := h u
    simp only [List.map_cons, List.sum_cons, List.length_cons, Nat.add_mul]
    omega
theorem len_sum (us : List Int) : ∀ L : List Pr, (∀ p ∈ L, p.reserve = false → p.user ∈ us) → L.length ≤ resP L + (us.map (cntP L)).sum
  | [], _ => Nat.zero_le _
  | p :: L, h => by
    have ih := len_sum us L fun q hq => h q (by simp [hq])
    have hle : ∀ u, cntP L u ≤ cntP (p :: L) u := fun u => by rw [cnt_cons]; omega
    rw [List.length_cons, res_cons]
    cases hr : p.reserve
    · have := sum_one us (cntP L) (cntP (p :: L)) hle p.user (h p (by simp) hr) (by rw [cnt_cons, if_pos (by simp [hold, hr])]; omega)
      simp only [Bool.false_eq_true, if_false]
      omega
    · have := sum_more us (cntP L) (cntP (p :: L)) hle
      simp only [if_true]
      omega
theorem Sd.len53 {s : TB} (h : Sd s) : s.L.length ≤ 53 := by
  have h1 := len_sum s.users s.L h.known
  have h2 := sum_le s.users (cntP s.L) 6 h.cnt
  have := h.u8
  have := h.res
  omega
section
variable {w0 W W' : World} {T D : Nat} {s d : TB} {K : Nat → Prop} {m : Int}
def stepRel (w : World) (T D n : Nat) (iv : Value) (wr : World) : Prop := ∃ (k : Nat) (s : TB), iv = .int .i64 k ∧ k ≤ n ∧ TP (fun _ => False) w wr T D (1 + 2 * k) s s
/-- a row of the law's own, beside the tables. -/
theorem TP.row {v : Value} {n : Nat} {xs : List Value} {B : Nat} (h : TP (fun _ => False) w0 W T D m s d) (ho : W.ownsRow B 32 7 v n xs) (f : Fr (fun _ => False) W' W) (h' : TP (fun _ => False) w0 W' T D m s d) (hB : W'.heap.size ≤ B) : TP (fun k => v.ownBlock = some k) w0 W T D m s d :=
  h'.keep f fun k hk => ⟨.inr (Nat.le_trans hB (ho.lt k hk).1), (ho.lt k hk).2⟩
def bdRel (w : World) (T D : Nat) (m : Int) (s : TB) (v : Value) (B : Nat) (nv iv : Value) (wr : World) : Prop :=
  ∃ k : Nat, iv = .int .i64 k ∧ k ≤ s.L.length ∧ nv = .int .i64 ((s.L.take k).countP (·.reserve) : Nat) ∧ wr.ownsRow B 32 7 v s.L.length (rowsC s.L) ∧ TP (fun k => v.ownBlock = some k) w wr T D m s s
def frRel (w : World) (T : Nat) (m : Int) (L : List Pr) (v : Value) (B : Nat) (iv : Value) (wr : World) : Prop :=
  ∃ (k : Nat) (s' : TB) (ex : List Pr), iv = .int .i64 k ∧ k ≤ L.length ∧ s'.L = L ++ ex ∧ wr.ownsRow B 32 7 v L.length (rowsC L) ∧ TK (fun k => v.ownBlock = some k) w wr T (m + k) s'
theorem ownG_fr0 {B : Nat} {e : TypeId} {v : Value} {n size : Nat} {xs : List Value} (h : W.ownsRow B e size v n xs) (f : Fr (fun k => ¬ v.ownBlock = some k) W W') : W'.ownsRow B e size v n xs := ownG_fr h f fun k hk hn => hn hk
/-- a Fork of a live process of a user. -/
theorem fork_live {p : Pr} (h : Sd s) (hp : p ∈ s.L) (hd : p.dead = false) (hr : p.reserve = false) : forkE s p.pid false = if 6 ≤ cntP s.L p.user then 13 else 0 := by
  unfold forkE
  rw [live_of (at_of_mem h.asc hp) hd]
  simp only [Bool.false_eq_true, if_false]
  unfold roomP
  rw [if_neg]
  rintro ⟨hk, _⟩
  have := h.known p hp hr
  unfold knownP at hk
  rw [← List.contains_iff_mem, hk] at this
  cases this
theorem fork_app {a : Int} {r : Bool} : ∃ ex, (forkT s a r).L = s.L ++ ex := by
  unfold forkT
  cases liveP s.L a with
  | none => exact ⟨[], by simp⟩
  | some p =>
    simp only
    split
    · exact ⟨_, rfl⟩
    · exact ⟨[], by simp⟩
set_option maxHeartbeats 8000000 in
set_option maxRecDepth 100000 in
theorem bounds_any (p0 : Option Addr) (n0 c0 : Nat) (z0 : List OpP) (w : World) (h0 : InOps w p0 n0 z0) (l0 : n0 ≤ maxLen) :
    Calls Try.prog 4 #[.slice p0 n0 c0] w fun e w' => e = .returned (.bool true) ∧ Below w.heap.size w w' := by
  have H0 := Lib.hid h0
  unfold maxLen at l0
  clear h0
  go_enter Try.func4, Try.ntmps4
  go_wp2_with fail
  refine (shown_any w).mono ?_
  rintro e w1 ⟨rfl, b1⟩
  go_wp2_with fail
  refine (tl_new b1).mono ?_
  rintro e w2 ⟨T, rfl, p2⟩
  have H2 := Lib.hid (td_new p2 (by decide))
  clear p2 b1
  go_wp2_with fail
  refine H2.out.mono ?_
  rintro e w3 ⟨D, rfl, p3⟩
  have H3 := Lib.hid p3
  clear p3 H2
  go_wp2
  go_loopw [6] (fun iv wr => stepRel w T D 200 iv wr) (fun iv _ => 200 - (Lib.intOf iv).toNat)
  case atStart => exact ⟨0, new0, rfl, by decide, H3.out⟩
  case round =>
    obtain ⟨k, s, rfl, hk, hT⟩ := hrel
    clear H3
    by_cases hlt : k < n0 ∧ k < 200
    · obtain ⟨k0, k2⟩ := hlt
      have hz0 : z0[k]? = some (z0[k]'(by rw [H0.out.1]; exact k0)) := List.getElem?_eq_getElem _
      obtain ⟨ok, g0, o0, rfl, hc⟩ := H0.out.2 k _ hz0
      generalize z0[k]'(by rw [H0.out.1]; exact k0) = z at hz0 ok hc
      have hg : g0 < w.heap.size := cell_lt (hc 0 _ rfl)
      have e0 : wr.cell? ⟨g0, o0 + k * 4, none⟩ = some (.int .i64 z.kind) := (hT.bel.cell (p := ⟨g0, o0 + k * 4, none⟩) hg).trans (hc 0 _ rfl)
      have e1 : wr.cell? ⟨g0, o0 + k * 4 + 1, none⟩ = some (.int .i64 z.a) := (hT.bel.cell (p := ⟨g0, o0 + k * 4 + 1, none⟩) hg).trans (hc 1 _ rfl)
      have e2 : wr.cell? ⟨g0, o0 + k * 4 + 2, none⟩ = some (.int .i64 z.b) := (hT.bel.cell (p := ⟨g0, o0 + k * 4 + 2, none⟩) hg).trans (hc 2 _ rfl)
      have e3 : wr.cell? ⟨g0, o0 + k * 4 + 3, none⟩ = some (.bool z.on) := (hT.bel.cell (p := ⟨g0, o0 + k * 4 + 3, none⟩) hg).trans (hc 3 _ rfl)
      have i1 : (0 : Int) ≤ (k : Int) := by omega
      have i2 : (k : Int) < n0 := by omega
      have i3 : (k : Int) < 200 := by omega
      have HD := Lib.hid (does_any z ok (by omega) hT)
      generalize opP z s = s2 at *
      clear hz0 hc hT ok
      go_wp2_with fail
      refine HD.out.mono ?_
      rintro e w4 ⟨rfl, h4, -⟩
      have HA := Lib.hid (tp_all h4 (by omega))
      have H4 := Lib.hid h4
      clear HD e0 e1 e2 e3 h4
      go_wp2_with fail
      refine HA.out.mono ?_
      rintro e w5 ⟨v, rfl, hrow, h5, f5⟩
      have H5 := Lib.hid (h5.row hrow f5 H4.out (Nat.le_refl _))
      have HROW := Lib.hid hrow
      obtain ⟨ao, cap, hv, -⟩ := ownG_form0 hrow
      subst hv
      clear HA hrow h5 f5 H4
      go_wp2_with fail
      go_loopw [8, 9] (fun nv iv wr => bdRel w T D (1 + 2 * k + 2) s2 (.slice ao s2.L.length cap) w4.heap.size nv iv wr) (fun _ iv _ => s2.L.length - (Lib.intOf iv).toNat)
      case atStart => exact ⟨0, rfl, Nat.zero_le _, rfl, HROW.out, H5.out⟩
      case round =>
        obtain ⟨j, rfl, hj, rfl, hrow, hT⟩ := hrel
        by_cases hjl : j < s2.L.length
        · have hp : s2.L[j]? = some (s2.L[j]'hjl) := List.getElem?_eq_getElem _
          generalize s2.L[j]'hjl = p at hp
          obtain ⟨g, cap', hv, hg1, hg2⟩ := hrow.form (by omega)
          cases hv
          have hcs := row_cells hrow hp
          have q2 : wr.cell? ⟨g, j * 7 + 2, none⟩ = some (.int .i64 p.user) := hcs 2 _ rfl
          have q6 : wr.cell? ⟨g, j * 7 + 6, none⟩ = some (.bool p.reserve) := hcs 6 _ rfl
          have hst := cnt_take (·.reserve) hp
          have hle := cnt_take_le (·.reserve) s2.L j
          have hl53 := hT.sds.len53
          have hC := tp_count hT (by omega) p.user
          have h6 := hT.sds.cnt p.user
          generalize cntP s2.L p.user = cc at *
          have h6' : ¬ (6 : Int) < (cc : Int) := by omega
          have HC := Lib.hid hC
          have HRW := Lib.hid hrow
          have m1 : (0 : Int) ≤ (j : Int) := by omega
          have m2 : (j : Int) < (s2.L.length : Int) := by omega
          generalize hcc : (s2.L.take j).countP (·.reserve) = c at *
          generalize hdd : (s2.L.take (j + 1)).countP (·.reserve) = d at *
          have HDD := Lib.hid hdd
          clear hcs hC hT hrow HROW H5 hcc hdd hp h6
          cases hr : p.reserve
          · rw [hr] at hst q6
            simp only [Bool.false_eq_true, if_false, Nat.add_zero] at hst
            subst hst
            clear hle
            go_wp2_with (go_at_call 13; refine HC.out.mono ?_; rintro e w6 ⟨rfl, h6, f6⟩; have HR6 := Lib.hid (ownG_fr HRW.out f6 fun _ _ => id); have H6 := Lib.hid h6; clear h6; go_frame)
            go_roundw
            case rel => exact ⟨j + 1, by go_num, by omega, by rw [HDD.out], HR6.out, H6.out⟩
            case measure => simp [Lib.intOf]; omega
          · rw [hr] at hst q6
            simp only [if_true] at hst
            go_wp2_with (go_at_call 13; refine HC.out.mono ?_; rintro e w6 ⟨rfl, h6, f6⟩; have HR6 := Lib.hid (ownG_fr HRW.out f6 fun _ _ => id); have H6 := Lib.hid h6; clear h6; go_frame)
            go_roundw
            case rel => exact ⟨j + 1, by go_num, by omega, by rw [HDD.out, hst]; go_num, HR6.out, H6.out⟩
            case measure => simp [Lib.intOf]; omega
        · have hjn : j = s2.L.length := by omega
          have hres := hT.sds.res
          have hl53 := hT.sds.len53
          have hu8 := hT.sds.u8
          have hcr : (s2.L.take j).countP (·.reserve) = resP s2.L := by rw [hjn, List.take_length]; rfl
          rw [hcr]
          have HK := Lib.hid (tp_known hT)
          have HF := Lib.hid (hT.free (K' := fun _ => False) fun _ h => h.elim)
          have m2 : ¬ (j : Int) < (s2.L.length : Int) := by omega
          have m3 : ¬ (5 : Int) < (resP s2.L : Int) := by omega
          have m4 : ¬ (53 : Int) < (s2.L.length : Int) := by omega
          have m5 : ¬ (8 : Int) < (s2.users.length : Int) := by omega
          clear hjn hcr hT hrow hres hl53 hu8 HROW H5
          go_wp2_with (go_at_call 15; refine HK.out.mono ?_; rintro e w6 ⟨rfl, rfl⟩)
          go_roundw
          case rel => exact ⟨k + 1, s2, by go_num, by omega, by rw [show (1 + 2 * ((k + 1 : Nat) : Int)) = 1 + 2 * (k : Int) + 2 by omega]; exact HF.out⟩
          case measure => simp [Lib.intOf]; omega
    · have hend : (k : Int) < n0 ∧ ¬ (k : Int) < 200 ∨ ¬ (k : Int) < n0 := by omega
      have HA := Lib.hid (tp_all hT (by omega))
      have HT := Lib.hid hT
      have hlen := hT.sds.len53
      clear hT hlt
      rcases hend with ⟨i1, i2⟩ | i1
      all_goals
        go_wp2_with fail
        refine HA.out.mono ?_
        rintro e w5 ⟨v, rfl, hrow, h5, f5⟩
        have H5 := Lib.hid (h5.row hrow f5 HT.out (Nat.le_refl _)).tk
        have HROW := Lib.hid hrow
        obtain ⟨ao, cap, hv, -⟩ := ownG_form0 hrow
        subst hv
        generalize wr.heap.size = B at *
        clear HA hrow h5 f5 HT
        go_wp2_with fail
        go_loopw [11] (fun iv wr => frRel w T (1 + 2 * k) s.L (.slice ao s.L.length cap) B iv wr) (fun iv _ => s.L.length - (Lib.intOf iv).toNat)
        case atStart => exact ⟨0, s, [], rfl, Nat.zero_le _, by simp, HROW.out, by simpa using H5.out⟩
        case round =>
          obtain ⟨j, s', ex, rfl, hj, hex, hrow, hT⟩ := hrel
          clear H5 HROW
          by_cases hjl : j < s.L.length
          · have hp : s.L[j]? = some (s.L[j]'hjl) := List.getElem?_eq_getElem _
            have hmem : s.L[j]'hjl ∈ s'.L := by rw [hex]; exact List.mem_append_left _ (List.getElem_mem _)
            generalize s.L[j]'hjl = p at hp hmem
            obtain ⟨g, cap', hv, hg1, hg2⟩ := hrow.form (by omega)
            cases hv
            have hcs := row_cells hrow hp
            have q0 : wr.cell? ⟨g, j * 7, none⟩ = some (.int .i64 p.pid) := hcs 0 _ rfl
            have q1 : wr.cell? ⟨g, j * 7 + 1, none⟩ = some (.int .i64 p.parent) := hcs 1 _ rfl
            have q2 : wr.cell? ⟨g, j * 7 + 2, none⟩ = some (.int .i64 p.user) := hcs 2 _ rfl
            have q3 : wr.cell? ⟨g, j * 7 + 3, none⟩ = some (.int .i64 p.session) := hcs 3 _ rfl
            have q4 : wr.cell? ⟨g, j * 7 + 4, none⟩ = some (.int .i64 p.status) := hcs 4 _ rfl
            have q5 : wr.cell? ⟨g, j * 7 + 5, none⟩ = some (.bool p.dead) := hcs 5 _ rfl
            have q6 : wr.cell? ⟨g, j * 7 + 6, none⟩ = some (.bool p.reserve) := hcs 6 _ rfl
            have m1 : (0 : Int) ≤ (j : Int) := by omega
            have m2 : (j : Int) < (s.L.length : Int) := by omega
            have HRA := Lib.hid fun o => hrow.alloc o
            have HTA := Lib.hid fun o => hT.fresh ((Fr.refl _ wr).alloc o)
            have HTM := Lib.hid (show ∀ wz, TK (fun k => (Value.slice (some ⟨g, 0, none⟩) s.L.length cap).ownBlock = some k) w wz T (1 + 2 * k + j) s' → TK (fun k => (Value.slice (some ⟨g, 0, none⟩) s.L.length cap).ownBlock = some k) w wz T (1 + 2 * k + ((j + 1 : Nat) : Int)) s' from fun wz h => by
              obtain ⟨e, a, l, b⟩ := h
              exact ⟨e, a, by omega, b⟩)
            have HEX := Lib.hid hex
            cases hd : p.dead
            · rw [hd] at q5
              cases hr : p.reserve
              · rw [hr] at q6
                have hfe := fork_live hT.sd hmem hd hr
                obtain ⟨r1, r2⟩ := hT.sd.rng p hmem
                have hlast := hT.lb
                have hpid : I64 p.pid := ⟨by omega, by omega⟩
                have HSD := Lib.hid hT.sd
                have HCT := Lib.hid fun wz (hz : TK (fun k => (Value.slice (some ⟨g, 0, none⟩) s.L.length cap).ownBlock = some k) w wz T (1 + 2 * k + j) s') => tk_count p.user (by omega) hz
                have HFK := Lib.hid fun wz (hz : TK (fun k => (Value.slice (some ⟨g, 0, none⟩) s.L.length cap).ownBlock = some k) w wz T (1 + 2 * k + j) s') => tk_fork p.pid false hpid (by omega) hz
                obtain ⟨ex2, hex2⟩ := fork_app (s := s') (a := p.pid) (r := false)
                have HEX2 := Lib.hid hex2
                have key : cntP s'.L p.user < 6 ∧ forkE s' p.pid false = 0 ∨ ¬ cntP s'.L p.user < 6 ∧ forkE s' p.pid false = 13 := by
                  rw [hfe]
                  by_cases h6 : 6 ≤ cntP s'.L p.user
                  · rw [if_pos h6]; exact .inr ⟨by omega, rfl⟩
                  · rw [if_neg h6]; exact .inl ⟨by omega, rfl⟩
                generalize cntP s'.L p.user = cc at *
                generalize forkE s' p.pid false = fe at *
                generalize forkN s' p.pid false = fn at *
                generalize forkT s' p.pid false = s3 at *
                clear hcs hT hrow hmem hp hfe hd hr hex hex2 r1 r2
                rcases key with ⟨u1, u2⟩ | ⟨u1, u2⟩
                all_goals
                  subst u2
                  have u3 := u1
                  first
                    | (have u4 : (cc : Int) < 6 := by omega)
                    | (have u4 : ¬ (cc : Int) < 6 := by omega)
                  clear u1 u3
                  go_wp2_with (first
                    | (go_at_call 13; refine (HCT.out _ (HTA.out _)).mono ?_; rintro e w6 ⟨rfl, h6, f6⟩; have HR6 := Lib.hid (ownG_fr (HRA.out _) f6 fun _ _ => id); have x0 := f6.cell (op_new wr _ 32 (j := 0) (v := .int .i64 p.pid) rfl) id; have HFF := Lib.hid (HFK.out _ h6); clear h6; go_frame)
                    | (go_at_call 17; refine HFF.out.mono ?_; rintro e w7 ⟨rfl, h7, f7⟩; have HR7 := Lib.hid (ownG_fr0 HR6.out f7); have H7 := Lib.hid h7; clear h7; go_frame))
                  go_roundw
                  case rel => exact ⟨j + 1, s3, ex ++ ex2, by go_num, by omega, by rw [HEX2.out, HEX.out, List.append_assoc], HR7.out, by rw [show (1 + 2 * (k : Int) + ((j + 1 : Nat) : Int)) = 1 + 2 * k + j + 1 by omega]; exact H7.out⟩
                  case measure => simp [Lib.intOf]; omega
              · rw [hr] at q6
                clear hcs hT hrow hmem hp hd hr hex
                go_wp2
                go_roundw
                case rel => exact ⟨j + 1, s', ex, by go_num, by omega, HEX.out, HRA.out _, HTM.out _ (HTA.out _)⟩
                case measure => simp [Lib.intOf]; omega
            · rw [hd] at q5
              clear hcs hT hrow hmem hp hd hex
              go_wp2
              go_roundw
              case rel => exact ⟨j + 1, s', ex, by go_num, by omega, HEX.out, HRA.out _, HTM.out _ (HTA.out _)⟩
              case measure => simp [Lib.intOf]; omega
          · have m2 : ¬ (j : Int) < (s.L.length : Int) := by omega
            have hbel := hT.bel
            clear hT hrow hex
            go_wp2
            go_ret
            exact ⟨rfl, hbel⟩
end
end Go.Proofs.Ytgbmedbkonloiaa
