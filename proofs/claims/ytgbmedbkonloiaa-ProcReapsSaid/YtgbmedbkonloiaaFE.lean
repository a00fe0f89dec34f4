/- Contracts of the program's Count, reserved, mayCount, mayFork: loops over the map in any order. -/
import Derived.Test.YtgbmedbkonloiaaFD
namespace Go.Proofs.Ytgbmedbkonloiaa
open Go.RowKit Go.Maps
set_option linter.unusedVariables false
set_option linter.unusedSimpArgs false
variable {W W' : World} {B T M : Nat} {nb : Int → Nat} {v : Value} {L : List Pr} {last : Int} {us : List Int} {S : Nat → Prop} {s : TB}
/-- how many were counted so far. -/
def cl (L : List Pr) (f : Pr → Bool) (left : Lit → Bool) : Nat := L.countP fun p => f p && !left (.int .i64 p.pid)
theorem cl_le (L : List Pr) (f : Pr → Bool) (left : Lit → Bool) : cl L f left ≤ L.length := List.countP_le_length
theorem cl_start {L : List Pr} {f : Pr → Bool} {left : Lit → Bool} (h : ∀ p ∈ L, left (.int .i64 p.pid) = true) : cl L f left = 0 := by
  unfold cl
  rw [List.countP_eq_zero]
  intro p hp
  rw [h p hp]; simp
theorem cl_end {L : List Pr} {f : Pr → Bool} {left : Lit → Bool} (h : ∀ z, left z = false) : cl L f left = L.countP f := by
  unfold cl
  congr 1
  funext p
  rw [h]; simp
theorem strike_other (left : Lit → Bool) {x y : Int} (h : y ≠ x) : (left (.int .i64 y) && !(Lit.int .i64 y).sameKey (.int .i64 x)) = left (.int .i64 y) := by
  rw [sameKey_int, show (y == x) = false by simpa using h]; simp
theorem strike_same (left : Lit → Bool) (x : Int) : (left (.int .i64 x) && !(Lit.int .i64 x).sameKey (.int .i64 x)) = false := by
  rw [sameKey_int]; simp
theorem cl_step {L : List Pr} (f : Pr → Bool) {left : Lit → Bool} (ha : L.Pairwise fun p q => p.pid < q.pid) {p : Pr} (hp : p ∈ L) (hl : left (.int .i64 p.pid) = true) :
    cl L f (fun z => left z && !z.sameKey (.int .i64 p.pid)) = cl L f left + if f p = true then 1 else 0 := by
  obtain ⟨l, m, rfl, -, h1, h2⟩ := at_split ha (at_of_mem ha hp)
  have hc : ∀ k : List Pr, (∀ q ∈ k, q.pid ≠ p.pid) → k.countP (fun q => f q && !(left (.int .i64 q.pid) && !(Lit.int .i64 q.pid).sameKey (.int .i64 p.pid))) = k.countP (fun q => f q && !left (.int .i64 q.pid)) := fun k hk => by
    refine List.countP_congr fun q hq => ?_
    rw [strike_other left (hk q hq)]
  unfold cl
  rw [List.countP_append, List.countP_append, List.countP_cons, List.countP_cons, hc l h1, hc m h2]
  have e2 : (f p && !(left (.int .i64 p.pid) && !(Lit.int .i64 p.pid).sameKey (.int .i64 p.pid))) = f p := by rw [strike_same]; simp
  have e3 : (f p && !left (.int .i64 p.pid)) = false := by rw [hl]; simp
  simp only [e2, e3, Bool.false_eq_true, if_false]
  omega
theorem has_all {D : DataW Unit} (hAg : Ag D L nb) (ha : L.Pairwise fun p q => p.pid < q.pid) : ∀ p ∈ L, Maps.has D (.int .i64 p.pid) = true := fun p hp => by
  rw [hAg.has, at_of_mem ha hp]; rfl
def ctRel (W : World) (M : Nat) (D : DataW Unit) (L : List Pr) (f : Pr → Bool) (nv : Value) (wr : World) : Prop :=
  ∃ (left : Lit → Bool) (cnt : Nat), wr.ranges Try.prog 3 ptrR M W.heap.size L.length D left cnt ∧ nv = .int .i64 (cl L f left : Nat) ∧ Fr (fun _ => False) W wr
theorem Fr.grown0 {S : Nat → Prop} {a b c : World} {r : Nat} (h : Fr S a b) (k : b.grownBy c (some r)) (hr : a.heap.size ≤ r) : Fr S a c :=
  ⟨k.os.trans h.os, k.tape.trans h.tape, k.output.trans h.output, Nat.le_trans h.size k.size, fun i hi hn => (k.block i (Nat.lt_of_lt_of_le hi h.size) (fun e => by cases e; omega)).trans (h.block i hi hn)⟩
set_option maxHeartbeats 2000000 in
theorem count_any (u : Int) (h : PR W B T M nb v L last us) (ha : L.Pairwise fun p q => p.pid < q.pid) (hlen : (L.length : Int) ≤ 1000000) :
    Calls Try.prog 13 #[.pointer (some ⟨T, 0, none⟩), .int .i64 u] W fun r w' => r = .returned (.int .i64 (cntP L u : Nat)) ∧ Fr (fun _ => False) W w' := by
  obtain ⟨c0, -, -⟩ := h.cell
  have HA := Lib.hid ha
  obtain ⟨D, hown, hAg⟩ := h.map
  have HAg := Lib.hid hAg
  have H := Lib.hid h
  clear h ha hAg
  go_enter Try.func13, Try.ntmps13
  go_wp2_with (first
    | (at_range; refine wpList_range_own _ rfl _ 56 rfl 3 60 intLaw undMap ptrR M L.length D rfl hown ?_; intro w0 hrg0 hg0 hs0)
    | go_in)
  go_frame
  go_loopw [5] (fun nv wr => ctRel W M D L (hold u) nv wr) (fun _ wr => wr.rangeLeft M W.heap.size)
  case atStart =>
    refine ⟨_, _, hrg0, ?_, Fr.of_below ⟨hg0.os, hg0.tape, hg0.output, hg0.size, fun k hk => hg0.block k hk (by simp)⟩⟩
    rw [cl_start (has_all HAg.out HA.out)]
    rfl
  case round =>
    obtain ⟨left, cnt, hrg, rfl, hFr⟩ := hrel
    have HF := Lib.hid hFr
    clear hFr hown
    go_wp2_with (first
      | (at_next; refine wpl_next (L := L) (nb := nb) rfl _ rfl M W.heap.size _ D left cnt rfl hrg HAg.out ?_ ?_)
      | go_in)
    · intro hl0
      have HR := Lib.hid (show cl L (hold u) left = cntP L u from cl_end hl0)
      clear hl0 hrg
      go_wp2
      go_ret
      exact ⟨ret_int (by rw [HR.out]), HF.out⟩
    · intro p w1 cnt1 hmem hlx hrg1 hlt hg1 hen
      have hF1 := HF.out.grown0 hg1 (Nat.le_refl _)
      have H1 := H.out.fr hF1 fun _ _ => id
      obtain ⟨-, -, k2, -, -, -, k6⟩ := H1.cells (at_of_mem HA.out hmem)
      have hst := cl_step (hold u) HA.out hmem hlx
      have hle := cl_le L (hold u) left
      have HF1 := Lib.hid hF1
      have Hrg := Lib.hid hrg
      clear hF1 H1 hmem hlx hg1 hrg
      generalize hc : cl L (hold u) left = c at *
      generalize hd : cl L (hold u) (fun z => left z && !z.sameKey (.int .i64 p.pid)) = d at *
      have HD := Lib.hid hd
      clear hc hd
      unfold hold at hst
      generalize nb p.pid = b at *
      cases hu : (p.user == u)
      · rw [hu] at hst
        simp only [Bool.false_and, Bool.false_eq_true, if_false, Nat.add_zero] at hst
        subst hst
        clear hle
        go_wp2
        go_roundw
        case rel => exact ⟨_, cnt1, hrg1, by rw [HD.out], HF1.out⟩
        case measure => rw [hrg1.left_eq, Hrg.out.left_eq]; exact hlt
      · rw [hu] at hst
        cases hr : p.reserve
        · rw [hr] at hst k6
          simp only [Bool.true_and, Bool.not_false, if_true] at hst
          go_wp2
          go_roundw
          case rel =>
            refine ⟨_, cnt1, hrg1, ?_, HF1.out⟩
            rw [HD.out, hst]
            go_num
          case measure => rw [hrg1.left_eq, Hrg.out.left_eq]; exact hlt
        · rw [hr] at hst k6
          simp only [Bool.true_and, Bool.not_true, Bool.false_eq_true, if_false, Nat.add_zero] at hst
          subst hst
          clear hle
          go_wp2
          go_roundw
          case rel => exact ⟨_, cnt1, hrg1, by rw [HD.out], HF1.out⟩
          case measure => rw [hrg1.left_eq, Hrg.out.left_eq]; exact hlt
set_option maxHeartbeats 2000000 in
theorem reserved_any (h : PR W B T M nb v L last us) (ha : L.Pairwise fun p q => p.pid < q.pid) (hlen : (L.length : Int) ≤ 1000000) :
    Calls Try.prog 41 #[.pointer (some ⟨T, 0, none⟩)] W fun r w' => r = .returned (.int .i64 (resP L : Nat)) ∧ Fr (fun _ => False) W w' := by
  obtain ⟨c0, -, -⟩ := h.cell
  have HA := Lib.hid ha
  obtain ⟨D, hown, hAg⟩ := h.map
  have HAg := Lib.hid hAg
  have H := Lib.hid h
  clear h ha hAg
  go_enter Try.func41, Try.ntmps41
  go_wp2_with (first
    | (at_range; refine wpList_range_own _ rfl _ 56 rfl 3 60 intLaw undMap ptrR M L.length D rfl hown ?_; intro w0 hrg0 hg0 hs0)
    | go_in)
  go_frame
  go_loopw [3] (fun nv wr => ctRel W M D L (·.reserve) nv wr) (fun _ wr => wr.rangeLeft M W.heap.size)
  case atStart =>
    refine ⟨_, _, hrg0, ?_, Fr.of_below ⟨hg0.os, hg0.tape, hg0.output, hg0.size, fun k hk => hg0.block k hk (by simp)⟩⟩
    rw [cl_start (has_all HAg.out HA.out)]
    rfl
  case round =>
    obtain ⟨left, cnt, hrg, rfl, hFr⟩ := hrel
    have HF := Lib.hid hFr
    clear hFr hown
    go_wp2_with (first
      | (at_next; refine wpl_next (L := L) (nb := nb) rfl _ rfl M W.heap.size _ D left cnt rfl hrg HAg.out ?_ ?_)
      | go_in)
    · intro hl0
      have HR := Lib.hid (show cl L (·.reserve) left = resP L from cl_end hl0)
      clear hl0 hrg
      go_wp2
      go_ret
      exact ⟨ret_int (by rw [HR.out]), HF.out⟩
    · intro p w1 cnt1 hmem hlx hrg1 hlt hg1 hen
      have hF1 := HF.out.grown0 hg1 (Nat.le_refl _)
      have H1 := H.out.fr hF1 fun _ _ => id
      obtain ⟨-, -, -, -, -, -, k6⟩ := H1.cells (at_of_mem HA.out hmem)
      have hst := cl_step (·.reserve) HA.out hmem hlx
      have hle := cl_le L (·.reserve) left
      have HF1 := Lib.hid hF1
      have Hrg := Lib.hid hrg
      clear hF1 H1 hmem hlx hg1 hrg
      generalize hc : cl L (·.reserve) left = c at *
      generalize hd : cl L (·.reserve) (fun z => left z && !z.sameKey (.int .i64 p.pid)) = d at *
      have HD := Lib.hid hd
      clear hc hd
      generalize nb p.pid = b at *
      cases hr : p.reserve
      · rw [hr] at hst k6
        simp only [Bool.false_eq_true, if_false, Nat.add_zero] at hst
        subst hst
        clear hle
        go_wp2
        go_roundw
        case rel => exact ⟨_, cnt1, hrg1, by rw [HD.out], HF1.out⟩
        case measure => rw [hrg1.left_eq, Hrg.out.left_eq]; exact hlt
      · rw [hr] at hst k6
        simp only [if_true] at hst
        go_wp2
        go_roundw
        case rel =>
          refine ⟨_, cnt1, hrg1, ?_, HF1.out⟩
          rw [HD.out, hst]
          go_num
        case measure => rw [hrg1.left_eq, Hrg.out.left_eq]; exact hlt
set_option maxHeartbeats 1000000 in
theorem maycount_any (u : Int) (h : TAt W B T S s) (hs : Sd s) (hb : s.last ≤ 1000000) :
    Calls Try.prog 33 #[.pointer (some ⟨T, 0, none⟩), .int .i64 u] W fun r w' => r = .returned (.int .i64 (roomP s u)) ∧ Fr (fun _ => False) W w' := by
  obtain ⟨M, nb, v, h1, rfl⟩ := h
  obtain ⟨-, -, c2⟩ := h1.cell
  obtain ⟨ao, cap, hv, -⟩ := own_form h1.us
  have hK := isknown_any u h1 hs.u8
  have hC := count_any u h1 hs.asc (Int.le_trans hs.len hb)
  have h8 := hs.u8
  subst hv
  unfold roomP
  have HK := Lib.hid hK
  have HC := Lib.hid hC
  clear h1 hs hK hC
  generalize s.users.length = m at *
  generalize cntP s.L u = c at *
  cases hk : knownP s.users u
  · rw [hk] at HK
    by_cases h9 : 8 ≤ m
    · rw [if_pos ⟨rfl, h9⟩]
      have i1 : (8 : Int) ≤ m := by omega
      clear hk HC
      go_enter Try.func33, Try.ntmps33
      go_wp2_with (go_at_call 42; refine HK.out.mono ?_; rintro e w' ⟨rfl, rfl⟩)
      go_ret
      exact ⟨rfl, Fr.refl _ _⟩
    · rw [if_neg (fun e => h9 e.2)]
      have i1 : ¬ (8 : Int) ≤ m := by omega
      by_cases h6 : 6 ≤ c
      · rw [if_pos h6]
        have i2 : (6 : Int) ≤ c := by omega
        clear hk h6
        go_enter Try.func33, Try.ntmps33
        go_wp2_with (first
          | (go_at_call 42; refine HK.out.mono ?_; rintro e w' ⟨rfl, rfl⟩)
          | (go_at_call 13; refine HC.out.mono ?_; rintro e w' ⟨rfl, hF⟩))
        go_ret
        exact ⟨rfl, hF⟩
      · rw [if_neg h6]
        have i2 : ¬ (6 : Int) ≤ c := by omega
        clear hk h6
        go_enter Try.func33, Try.ntmps33
        go_wp2_with (first
          | (go_at_call 42; refine HK.out.mono ?_; rintro e w' ⟨rfl, rfl⟩)
          | (go_at_call 13; refine HC.out.mono ?_; rintro e w' ⟨rfl, hF⟩))
        go_ret
        exact ⟨rfl, hF⟩
  · rw [hk] at HK
    rw [if_neg (fun e => by cases e.1)]
    by_cases h6 : 6 ≤ c
    · rw [if_pos h6]
      have i2 : (6 : Int) ≤ c := by omega
      clear hk h6
      go_enter Try.func33, Try.ntmps33
      go_wp2_with (first
        | (go_at_call 42; refine HK.out.mono ?_; rintro e w' ⟨rfl, rfl⟩)
        | (go_at_call 13; refine HC.out.mono ?_; rintro e w' ⟨rfl, hF⟩))
      go_ret
      exact ⟨rfl, hF⟩
    · rw [if_neg h6]
      have i2 : ¬ (6 : Int) ≤ c := by omega
      clear hk h6
      go_enter Try.func33, Try.ntmps33
      go_wp2_with (first
        | (go_at_call 42; refine HK.out.mono ?_; rintro e w' ⟨rfl, rfl⟩)
        | (go_at_call 13; refine HC.out.mono ?_; rintro e w' ⟨rfl, hF⟩))
      go_ret
      exact ⟨rfl, hF⟩
end Go.Proofs.Ytgbmedbkonloiaa
