/- The document's small calls: live, Count, known, room, learn, Get, Leads, New. -/
import Derived.Test.YtgbmedbkonloiaaFL
namespace Go.Proofs.Ytgbmedbkonloiaa
open Go.RowKit
set_option linter.unusedVariables false
set_option linter.unusedSimpArgs false
def DAt (W : World) (B D : Nat) (R : Nat → Prop) (s : TB) : Prop := ∃ v u, DR W B D v u s.L s.last s.users ∧ R = Bd D v u
def DDoes (W : World) (B D : Nat) (R : Nat → Prop) (s : TB) (w' : World) : Prop := ∃ R', DAt w' B D R' s ∧ Step R R' W w'
section
variable {W W' : World} {B D : Nat} {R : Nat → Prop} {s : TB}
theorem DAt.lt (h : DAt W B D R s) {k : Nat} (hk : R k) : B ≤ k ∧ k < W.heap.size := by
  obtain ⟨v, u, h1, rfl⟩ := h
  exact h1.lt hk
theorem DAt.fr {S : Nat → Prop} (h : DAt W B D R s) (f : Fr S W W') (hs : ∀ k, R k → ¬ S k) : DAt W' B D R s := by
  obtain ⟨v, u, h1, rfl⟩ := h
  exact ⟨v, u, h1.fr f hs, rfl⟩
theorem DAt.does (h : DAt W B D R s) : DDoes W B D R s W := ⟨R, h, Step.refl _ _⟩
theorem DAt.does_fr (h : DAt W B D R s) (f : Fr (fun _ => False) W W') : DDoes W B D R s W' := ⟨R, h.fr f fun _ _ => id, f.mono (fun _ _ h => h.elim), fun _ h => .inl h⟩
end
section
variable {W W' : World} {B D : Nat} {v u : Value} {L : List Pr} {last : Int} {us : List Int} {R : Nat → Prop} {s : TB}
theorem prC_len (p : Pr) : (prC p).length = 7 := rfl
theorem rowsC_set (L : List Pr) (j : Nat) (p p' : Pr) (x : Value) (hj : j < 7) (e : prC p' = (prC p).set j x) : ∀ (k : Nat), L[k]? = some p → rowsC (L.set k p') = (rowsC L).set (k * 7 + j) x := by
  induction L with
  | nil => intro k h; cases h
  | cons a L ih =>
    intro k h
    cases k with
    | zero =>
      have ha : a = p := by simpa using h
      subst ha
      rw [List.set_cons_zero, rowsC_cons, rowsC_cons, e, Nat.zero_mul, Nat.zero_add, List.set_append, if_pos (by rw [prC_len]; exact hj)]
    | succ k =>
      have h2 : L[k]? = some p := by simpa using h
      rw [List.set_cons_succ, rowsC_cons, rowsC_cons, ih k h2, List.set_append, if_neg (by rw [prC_len]; omega), prC_len, show (k + 1) * 7 + j - 7 = k * 7 + j by omega]
theorem row_set {g cap n i : Nat} {t : TypeId} {xs : List Value} (h : W.ownsRow B t 7 (.slice (some ⟨g, 0, none⟩) n cap) n xs) (x : Value) (hi : i < n * 7) : (W.setCell ⟨g, i, none⟩ x).ownsRow B t 7 (.slice (some ⟨g, 0, none⟩) n cap) n (xs.set i x) := by
  refine ⟨by rw [List.length_set]; exact h.1, ?_⟩
  rcases h.2 with ⟨e, _⟩ | ⟨g', cap', cur, e, h1, h2, h3, h4, h5, h6⟩
  · cases e
  · cases e
    refine .inr ⟨g, cap, cur.setIfInBounds i x, rfl, h1, heap_set h2 _ _, h3, h4, by simpa using h5, ?_⟩
    rw [Array.toList_setIfInBounds, List.take_set, h6]
/-- one cell of a process is written. -/
theorem DR.set1 {g cap : Nat} (h : DR W B D (.slice (some ⟨g, 0, none⟩) L.length cap) u L last us) {k : Nat} {p p' : Pr} (hp : L[k]? = some p) (j : Nat) (hj : j < 7) (x : Value) (e : prC p' = (prC p).set j x) :
    DR (W.setCell ⟨g, k * 7 + j, none⟩ x) B D (.slice (some ⟨g, 0, none⟩) (L.set k p').length cap) u (L.set k p') last us := by
  have hk : k < L.length := (List.getElem?_eq_some_iff.1 hp).1
  have fr := Fr.one W g (k * 7 + j) x
  refine ⟨(fr.block D (heap_lt h.hb) (fun e => h.nD g rfl e.symm)).trans (by rw [h.hb, List.length_set]), ?_, ownG_fr h.us fr fun k hk e => h.vu g rfl (by rw [hk, e]), h.base⟩
  rw [rowsC_set L j p p' x hj e k hp, List.length_set]
  exact row_set h.o x (by omega)
theorem asc_get (ha : L.Pairwise fun p q => p.pid < q.pid) {i k : Nat} {p q : Pr} (hp : L[k]? = some p) (hq : L[i]? = some q) (hn : i ≠ k) : q.pid ≠ p.pid := by
  obtain ⟨h1, e1⟩ := List.getElem?_eq_some_iff.1 hp
  obtain ⟨h2, e2⟩ := List.getElem?_eq_some_iff.1 hq
  rw [List.pairwise_iff_getElem] at ha
  rcases Nat.lt_or_gt_of_ne hn with h | h
  · have := ha i k h2 h1 h
    rw [e1, e2] at this; omega
  · have := ha k i h1 h2 h
    rw [e1, e2] at this; omega
theorem modP_set (ha : L.Pairwise fun p q => p.pid < q.pid) {k : Nat} {p : Pr} (hp : L[k]? = some p) (f : Pr → Pr) : modP p.pid f L = L.set k (f p) := by
  refine List.ext_getElem? fun i => ?_
  unfold modP
  rw [List.getElem?_map, List.getElem?_set]
  by_cases e : k = i
  · subst e
    rw [if_pos rfl, if_pos (List.getElem?_eq_some_iff.1 hp).1, hp]
    simp
  · rw [if_neg e]
    cases hq : L[i]? with
    | none => rfl
    | some q =>
      have := asc_get ha hp hq (Ne.symm e)
      simp [this]
theorem pos_live {x : Int} {p : Pr} (h : liveP L x = some p) : ∃ k, lposV L x = (k : Nat) ∧ L[k]? = some p ∧ p.pid = x ∧ k < L.length := by
  have h1 := (live_some h).1
  cases hp : posP L x with
  | none => rw [pos_none hp] at h1; cases h1
  | some k =>
    obtain ⟨q, hq, hq2, hx, hk⟩ := pos_some hp
    rw [h1] at hq2; cases hq2
    exact ⟨k, by unfold lposV posV; rw [h, hp], hq, hx, hk⟩
set_option maxHeartbeats 1000000 in
theorem rlive_any (x : Int) (h : DR W B D v u L last us) (hl : L.length ≤ 1000000) :
    Calls Try.prog 35 #[.pointer (some ⟨D, 0, none⟩), .int .i64 x] W fun r w' => r = .returned (.int .i64 (lposV L x)) ∧ W = w' := by
  have hA := rat_any x h hl
  obtain ⟨c0, -, -⟩ := h.cell
  cases hp : posP L x with
  | none =>
    have HR := Lib.hid (show lposV L x = -1 by unfold lposV liveP; rw [pos_none hp]; rfl)
    rw [show posV L x = -1 by unfold posV; rw [hp]] at hA
    clear h hp
    go_enter Try.func35, Try.ntmps35
    go_wp2_with (go_at_call 28; refine hA.mono ?_; rintro e w' ⟨rfl, rfl⟩)
    go_ret
    exact ⟨ret_int HR.out.symm, rfl⟩
  | some k =>
    obtain ⟨p, hk, hat, hx, hlt⟩ := pos_some hp
    have hpv : posV L x = (k : Nat) := by unfold posV; rw [hp]
    rw [hpv] at hA
    obtain ⟨g, cap, rfl, hg, hc⟩ := h.form (by omega)
    obtain ⟨-, -, -, -, -, e5, -⟩ := h.cellP hk
    have i1 : (0 : Int) ≤ (k : Int) := by omega
    have i2 : (k : Int) < (L.length : Int) := by omega
    have i3 : ¬ (k : Int) < 0 := by omega
    cases hd : p.dead
    · have HR := Lib.hid (show lposV L x = (k : Nat) by unfold lposV; rw [live_of hat hd]; exact hpv)
      rw [hd] at e5
      clear h hp hk hat hx hd hpv
      go_enter Try.func35, Try.ntmps35
      go_wp2_with (go_at_call 28; refine hA.mono ?_; rintro e w' ⟨rfl, rfl⟩)
      go_ret
      exact ⟨ret_int HR.out.symm, rfl⟩
    · have HR := Lib.hid (show lposV L x = -1 by unfold lposV liveP; rw [hat]; simp [Option.filter, hd])
      rw [hd] at e5
      clear h hp hk hat hx hd hpv
      go_enter Try.func35, Try.ntmps35
      go_wp2_with (go_at_call 28; refine hA.mono ?_; rintro e w' ⟨rfl, rfl⟩)
      go_ret
      exact ⟨ret_int HR.out.symm, rfl⟩
theorem cnt_take (f : Pr → Bool) {k : Nat} {p : Pr} (hp : L[k]? = some p) : (L.take (k + 1)).countP f = (L.take k).countP f + if f p = true then 1 else 0 := by
  rw [List.take_add_one, hp, List.countP_append]
  simp [List.countP_cons]
theorem cnt_take_le (f : Pr → Bool) (L : List Pr) (k : Nat) : (L.take k).countP f ≤ L.length := Nat.le_trans List.countP_le_length (by rw [List.length_take]; omega)
def rcRel (W : World) (L : List Pr) (f : Pr → Bool) (nv iv : Value) (wr : World) : Prop := ∃ k : Nat, iv = .int .i64 k ∧ k ≤ L.length ∧ nv = .int .i64 ((L.take k).countP f : Nat) ∧ wr = W
set_option maxHeartbeats 2000000 in
theorem rcount_any (x : Int) (h : DR W B D v u L last us) (hl : L.length ≤ 1000000) :
    Calls Try.prog 14 #[.pointer (some ⟨D, 0, none⟩), .int .i64 x] W fun r w' => r = .returned (.int .i64 (cntP L x : Nat)) ∧ W = w' := by
  obtain ⟨c0, -, -⟩ := h.cell
  obtain ⟨ao, cap, hv, hcap, hmax⟩ := ownG_form h.o
  subst hv
  have H := Lib.hid h
  clear h
  go_enter Try.func14, Try.ntmps14
  go_wp2
  go_loopw [5, 6] (fun nv iv wr => rcRel W L (hold x) nv iv wr) (fun _ iv _ => L.length - (Lib.intOf iv).toNat)
  case atStart => exact ⟨0, rfl, Nat.zero_le _, rfl, rfl⟩
  case round =>
    obtain ⟨k, rfl, hk, rfl, rfl⟩ := hrel
    by_cases hlt : k < L.length
    · have hp : L[k]? = some (L[k]'hlt) := List.getElem?_eq_getElem _
      generalize L[k]'hlt = p at hp
      obtain ⟨g, cap', hv, hg, hc2⟩ := H.out.form (by omega)
      cases hv
      obtain ⟨-, -, e2, -, -, -, e6⟩ := H.out.cellP hp
      have i1 : (0 : Int) ≤ (k : Int) := by omega
      have i2 : (k : Int) < (L.length : Int) := by omega
      have hst := cnt_take (hold x) hp
      have hle := cnt_take_le (hold x) L k
      generalize hc : (L.take k).countP (hold x) = c at *
      generalize hd : (L.take (k + 1)).countP (hold x) = d at *
      have HD := Lib.hid hd
      clear hp hc hd
      unfold hold at hst
      cases hu : (p.user == x)
      · rw [hu] at hst
        simp only [Bool.false_and, Bool.false_eq_true, if_false, Nat.add_zero] at hst
        subst hst
        clear hle
        go_wp2
        go_roundw
        case rel => exact ⟨k + 1, by go_num, by omega, by rw [HD.out], rfl⟩
        case measure => simp [Lib.intOf]; omega
      · rw [hu] at hst
        cases hr : p.reserve
        · rw [hr] at hst e6
          simp only [Bool.true_and, Bool.not_false, if_true] at hst
          go_wp2
          go_roundw
          case rel => exact ⟨k + 1, by go_num, by omega, by rw [HD.out, hst]; go_num, rfl⟩
          case measure => simp [Lib.intOf]; omega
        · rw [hr] at hst e6
          simp only [Bool.true_and, Bool.not_true, Bool.false_eq_true, if_false, Nat.add_zero] at hst
          subst hst
          clear hle
          go_wp2
          go_roundw
          case rel => exact ⟨k + 1, by go_num, by omega, by rw [HD.out], rfl⟩
          case measure => simp [Lib.intOf]; omega
    · have hkl : k = L.length := by omega
      have HR := Lib.hid (show (L.take k).countP (hold x) = cntP L x by rw [hkl, List.take_length]; rfl)
      have i2 : ¬ ((k : Int) < (L.length : Int)) := by omega
      clear hkl
      go_wp2
      go_ret
      exact ⟨ret_int (by rw [HR.out]), rfl⟩
def rkRel (W : World) (us : List Int) (x : Int) (iv : Value) (wr : World) : Prop := ∃ k : Nat, iv = .int .i64 k ∧ k ≤ us.length ∧ knownP (us.take k) x = false ∧ wr = W
set_option maxHeartbeats 1000000 in
theorem rknown_any (x : Int) (h : DR W B D v u L last us) (hl : us.length ≤ 8) :
    Calls Try.prog 43 #[.pointer (some ⟨D, 0, none⟩), .int .i64 x] W fun r w' => r = .returned (.bool (knownP us x)) ∧ W = w' := by
  obtain ⟨-, -, c2⟩ := h.cell
  obtain ⟨ao, cap, hv, hcap, hmax⟩ := ownG_form h.us
  subst hv
  have H := Lib.hid h
  clear h
  go_enter Try.func43, Try.ntmps43
  go_wp2
  go_loopw [5] (fun iv wr => rkRel W us x iv wr) (fun iv _ => us.length - (Lib.intOf iv).toNat)
  case atStart => exact ⟨0, rfl, Nat.zero_le _, rfl, rfl⟩
  case round =>
    obtain ⟨k, rfl, hk, hno, rfl⟩ := hrel
    by_cases hlt : k < us.length
    · have hp : us[k]? = some (us[k]'hlt) := List.getElem?_eq_getElem _
      generalize us[k]'hlt = y at hp
      obtain ⟨g, cap', hv, hg, hc2⟩ := H.out.us.form (by omega)
      cases hv
      have e0 : wr.cell? ⟨g, k, none⟩ = some (.int .i64 y) := by
        rw [H.out.us.cellAt k (by omega)]
        unfold intC
        rw [List.getElem?_map, hp]
        rfl
      have i1 : (0 : Int) ≤ (k : Int) := by omega
      have i2 : (k : Int) < (us.length : Int) := by omega
      have hmore : knownP (us.take (k + 1)) x = (knownP (us.take k) x || y == x) := by
        unfold knownP
        rw [List.take_add_one, hp, Bool.eq_iff_iff]
        simp only [List.contains_iff_mem, Option.toList_some, List.mem_append, List.mem_singleton, Bool.or_eq_true, beq_iff_eq]
        constructor
        · rintro (h | h)
          · exact .inl h
          · exact .inr h.symm
        · rintro (h | h)
          · exact .inl h
          · exact .inr h.symm
      cases hx : (y == x)
      · have HN := Lib.hid (show knownP (us.take (k + 1)) x = false by rw [hmore, hno, hx]; rfl)
        clear hp hno hmore
        go_wp2
        go_roundw
        case rel => exact ⟨k + 1, by go_num, by omega, HN.out, rfl⟩
        case measure => simp [Lib.intOf]; omega
      · have HR := Lib.hid (show knownP us x = true by
          unfold knownP
          have : y ∈ us := List.mem_of_getElem? hp
          rw [beq_iff_eq] at hx
          rw [List.contains_iff_mem, ← hx]; exact this)
        clear hp hno hmore
        go_wp2
        go_ret
        exact ⟨ret_bool HR.out.symm, rfl⟩
    · have hkl : k = us.length := by omega
      rw [hkl, List.take_length] at hno
      have HR := Lib.hid hno
      have i2 : ¬ ((k : Int) < (us.length : Int)) := by omega
      clear hno hkl
      go_wp2
      go_ret
      exact ⟨ret_bool HR.out.symm, rfl⟩
end
end Go.Proofs.Ytgbmedbkonloiaa
