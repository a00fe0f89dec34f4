/- The document's reader: word. -/
/- The document's reader: sign. -/
import Derived.Test.YtbmnngliapmgfaaGreatDoorCE
import Derived.Test.YtbmnngliapmgfaaGreatDoorCC
namespace Go.Proofs.YtbmnngliapmgfaaGreatDoor
open Go.RowKit
set_option linter.unusedVariables false
set_option linter.unusedSimpArgs false
/-- the word at the head of a text. -/
def wordB (l : Bs) : Bs := l.take (nameN l)
def wRel (s : ByteArray) (N : Nat) (iv : Value) : Prop := ∃ k : Nat, iv = .int .i64 k ∧ k ≤ s.size ∧ k + nameN (s.data.toList.drop k) = N
def wordPost (W : World) (p : Nat) (s : ByteArray) (k d : Nat) (gv sv : Value) (form : Bool) (err : Int) (e : Ending) (w' : World) : Prop :=
  ∃ j, e = .returned (.string (st (wordB (s.data.toList.drop j)))) ∧ RD w' p s j d gv sv form err ∧ Fr (· = p) W w' ∧ k ≤ j ∧ j ≤ s.size ∧ s.data.toList.drop j = trimB (s.data.toList.drop k)
theorem extract_word (s : ByteArray) (j : Nat) : s.extract j (j + nameN (s.data.toList.drop j)) = st (wordB (s.data.toList.drop j)) := by
  rw [← st_of (s.extract _ _), extract_mid, show j + nameN (s.data.toList.drop j) - j = nameN (s.data.toList.drop j) by omega]; rfl
theorem name_le' (l : Bs) : nameN l ≤ l.length := nameN_le l
set_option maxHeartbeats 2000000 in
theorem rword_any (W : World) (p : Nat) (s : ByteArray) (k d : Nat) (gv sv : Value) (form : Bool) (err : Int) (hk : k ≤ s.size) (hs : s.size ≤ 256) (h : RD W p s k d gv sv form err) :
    Calls Tryz.prog 13 #[.pointer (some ⟨p, 0, none⟩)] W (wordPost W p s k d gv sv form err) := by
  have HB := Lib.hid (rblanks_any W p s k d gv sv form err hk hs h)
  clear h
  go_enter Tryz.func13, Tryz.ntmps13
  go_upto_region 2 with (first
    | (go_at_call 8; (with_reducible refine HB.out.mono ?_); rintro e w1 ⟨rfl, j, hR, hF, hkj, hj, ht⟩))
  obtain ⟨c0, c1, c2, c3, c4, c5, c6, fz⟩ := hR.cells
  have HR := Lib.hid hR
  have HF := Lib.hid hF
  have HT := Lib.hid ht
  clear c2 c3 c4 c5 c6 fz hR hF ht HB
  obtain ⟨N, hN⟩ : ∃ N, j + nameN (s.data.toList.drop j) = N := ⟨_, rfl⟩
  have HN := Lib.hid hN
  have hNs : N ≤ s.size := by
    have := nameN_le (s.data.toList.drop j)
    rw [List.length_drop, size_len] at this
    omega
  clear hN
  go_wp2
  go_loop [3] (fun iv => wRel s N iv ∧ (j : Int) ≤ intOf iv) (fun iv => s.size - (intOf iv).toNat)
  case atStart => exact ⟨⟨j, rfl, hj, HN.out⟩, by simp [intOf]⟩
  case round =>
    obtain ⟨⟨i, rfl, hi, hn⟩, hji⟩ := hrel
    have hji : j ≤ i := by simpa [intOf] using hji
    by_cases hlt : i < s.size
    · have hat := at_byte hlt
      rw [hat, nameN] at hn
      have R := Lib.hid (fun (h : (isLt s[i] || isDg s[i]) = true) => show wRel s N (.int .i64 ((i + 1 : Nat) : Int)) from ⟨i + 1, rfl, hlt, by rw [if_pos h] at hn; omega⟩)
      have E := Lib.hid (fun (h : (isLt s[i] || isDg s[i]) = false) => show N = i by rw [if_neg (by rw [h]; decide)] at hn; omega)
      clear hn hat
      generalize hl : isLt s[i] = lt at *
      generalize hd : isDg s[i] = dt at *
      have HL : ∀ w, Calls Tryz.prog 14 #[.int .u8 s[i].toNat] w fun e w' => e = .returned (.bool lt) ∧ w' = w := fun w => by rw [← hl]; exact rletter_any _ w
      have HD : ∀ w, Calls Tryz.prog 24 #[.int .u8 s[i].toNat] w fun e w' => e = .returned (.bool dt) ∧ w' = w := fun w => by rw [← hd]; exact rdigit_any _ w
      have HL := Lib.hid HL
      have HD := Lib.hid HD
      clear hl hd
      cases lt
      · cases dt
        · have E := Lib.hid (E.out rfl)
          obtain rfl : N = i := E.out
          clear R E
          go_wp2_with (first | (go_at_call 14; (with_reducible refine (HL.out _).mono ?_); rintro e w' ⟨rfl, rfl⟩) | (go_at_call 24; (with_reducible refine (HD.out _).mono ?_); rintro e w' ⟨rfl, rfl⟩))
          go_quiet (fail)
          go_wp2
          go_ret
          exact ⟨j, congrArg (fun v => Ending.returned (Value.string v)) (by rw [← extract_word, HN.out]), HR.out, HF.out.drewN _, hkj, hj, HT.out⟩
        · have R := Lib.hid (R.out rfl)
          clear E
          go_wp2_with (first | (go_at_call 14; (with_reducible refine (HL.out _).mono ?_); rintro e w' ⟨rfl, rfl⟩) | (go_at_call 24; (with_reducible refine (HD.out _).mono ?_); rintro e w' ⟨rfl, rfl⟩))
          go_round
          case rel => exact ⟨by simpa using R.out, by simp [intOf]; omega⟩
          case measure => simp [intOf]; omega
      · have R := Lib.hid (R.out rfl)
        clear E
        go_wp2_with (first | (go_at_call 14; (with_reducible refine (HL.out _).mono ?_); rintro e w' ⟨rfl, rfl⟩) | (go_at_call 24; (with_reducible refine (HD.out _).mono ?_); rintro e w' ⟨rfl, rfl⟩))
        go_round
        case rel => exact ⟨by simpa using R.out, by simp [intOf]; omega⟩
        case measure => simp [intOf]; omega
    · have hke : i = s.size := by omega
      rw [List.drop_eq_nil_of_le (by rw [size_len]; omega), nameN] at hn
      obtain rfl : N = i := by omega
      clear hn
      go_wp2
      go_quiet (fail)
      go_wp2
      go_ret
      exact ⟨j, congrArg (fun v => Ending.returned (Value.string v)) (by rw [← extract_word, HN.out, hke]), HR.out, HF.out.drewN _, hkj, hj, HT.out⟩
end Go.Proofs.YtbmnngliapmgfaaGreatDoor
namespace Go.Proofs.YtbmnngliapmgfaaGreatDoor
open Go.RowKit
set_option linter.unusedVariables false
set_option linter.unusedSimpArgs false
/-- the signs in the document's order. -/
def refS : List Bs := [[60, 60, 61], [62, 62, 61], [42, 61], [47, 61], [37, 61], [43, 61], [45, 61], [38, 61], [94, 61], [124, 61], [124, 124], [38, 38], [61, 61], [33, 61], [60, 61], [62, 61], [60, 60], [62, 62], [61], [63], [58], [124], [94], [38], [60], [62], [43], [45], [42], [47], [37], [126], [33], [40], [41]]
def sgR (l : Bs) : Bs := (refS.find? fun t => l.take t.length == t).getD []
def srRel (W : World) (p : Nat) (s : ByteArray) (j d : Nat) (gv sv : Value) (form : Bool) (err : Int) (b : Nat) (iv nv : Value) (wr : World) : Prop :=
  ∃ i : Nat, iv = .int .i64 i ∧ i ≤ 35 ∧ RD wr p s j d gv sv form err ∧ Fr (· = p) W wr ∧ (∀ i t, refS[i]? = some t → wr.cell? ⟨b, i, none⟩ = some (.string (st t))) ∧ ∀ t ∈ refS.take i, (s.data.toList.drop j).take t.length ≠ t
def signPost (W : World) (p : Nat) (s : ByteArray) (k d : Nat) (gv sv : Value) (form : Bool) (err : Int) (e : Ending) (w' : World) : Prop :=
  ∃ j, e = .returned (.string (st (sgR (s.data.toList.drop j)))) ∧ RD w' p s j d gv sv form err ∧ Fr (· = p) W w' ∧ k ≤ j ∧ j ≤ s.size ∧ s.data.toList.drop j = trimB (s.data.toList.drop k)
theorem sgR_hit (l : Bs) : ∀ (L : List Bs) (i : Nat) (t : Bs), L[i]? = some t → l.take t.length = t → (∀ u ∈ L.take i, l.take u.length ≠ u) → L.find? (fun t => l.take t.length == t) = some t
  | u :: r, 0, t, h, ht, _ => by
    simp at h
    subst h
    rw [List.find?_cons, ht]; simp
  | u :: r, i + 1, t, h, ht, hn => by
    have h1 : (l.take u.length == u) = false := by simpa using hn u (by simp)
    rw [List.find?_cons, h1]
    exact sgR_hit l r i t (by simpa using h) ht fun v hv => hn v (by rw [List.take_succ_cons]; simp [hv])
theorem sg_next {l : Bs} {L : List Bs} {i : Nat} {t : Bs} (h : L[i]? = some t) (hn : ∀ u ∈ L.take i, l.take u.length ≠ u) (ht : l.take t.length ≠ t) : ∀ u ∈ L.take (i + 1), l.take u.length ≠ u := by
  intro u hu
  obtain ⟨hi, e⟩ := List.getElem?_eq_some_iff.1 h
  rw [List.take_succ_eq_append_getElem hi, List.mem_append, List.mem_singleton] at hu
  rcases hu with hu | rfl
  · exact hn u hu
  · rw [e]; exact ht
theorem sgR_none (l : Bs) (h : ∀ u ∈ refS, l.take u.length ≠ u) : sgR l = [] := by
  unfold sgR
  rw [List.find?_eq_none.2 (by intro x hx; simpa using h x hx)]; rfl
theorem eq_list (x y : ByteArray) : (x.toList == y.toList) = decide (x = y) := by
  by_cases h : x = y
  · rw [h]; simp
  · have : x.toList ≠ y.toList := by
      intro e
      rw [Lib.toList_data, Lib.toList_data] at e
      exact h (by rw [← st_of x, ← st_of y, e])
    simp [h, this]
set_option maxRecDepth 100000 in
set_option maxHeartbeats 4000000 in
theorem rsign_any (W : World) (p : Nat) (s : ByteArray) (k d : Nat) (gv sv : Value) (form : Bool) (err : Int) (hk : k ≤ s.size) (hs : s.size ≤ 256) (h : RD W p s k d gv sv form err) :
    Calls Tryz.prog 15 #[.pointer (some ⟨p, 0, none⟩)] W (signPost W p s k d gv sv form err) := by
  have HB := Lib.hid (rblanks_any W p s k d gv sv form err hk hs h)
  clear h
  go_enter Tryz.func15, Tryz.ntmps15
  go_upto_region 2 with (first
    | (go_at_call 8; (with_reducible refine HB.out.mono ?_); rintro e w1 ⟨rfl, j, hR, hF, hkj, hj, ht⟩))
  have HR := Lib.hid hR
  have HF := Lib.hid hF
  have HT := Lib.hid ht
  clear hR hF ht HB
  go_wp2
  go_loopw [4, 5] (fun iv nv wr => srRel W p s j d gv sv form err w1.heap.size iv nv wr) (fun iv _ _ => 35 - (intOf iv).toNat)
  case atStart =>
    have hf : Fr (fun _ => False) w1 (w1.alloc (.cells (refS.map fun t => Value.string (st t)).toArray 9)) := (Fr.refl _ _).alloc _
    exact ⟨0, rfl, by omega, HR.out.fr hf id, HF.out.alloc _, fun i t ht => by
      have := heap_alloc_new w1 (.cells (refS.map fun t => Value.string (st t)).toArray 9)
      show (w1.alloc (.cells (refS.map fun t => Value.string (st t)).toArray 9)).cell? _ = _
      rw [Lib.cell_of_heap this]
      simp [ht], fun t ht => by simp at ht⟩
  case round =>
    obtain ⟨i, rfl, hi, hR, hF, hc, hn⟩ := hrel
    obtain ⟨c0, c1, c2, c3, c4, c5, c6, fz⟩ := hR.cells
    have HR2 := Lib.hid hR
    have HF2 := Lib.hid hF
    have HC := Lib.hid hc
    have HN := Lib.hid hn
    clear c2 c3 c4 c5 c6 fz hR hF hn
    by_cases h35 : i < 35
    · obtain ⟨t, hit⟩ : ∃ t, refS[i]? = some t := ⟨_, List.getElem?_eq_getElem (by exact h35)⟩
      have ct := hc i t hit
      have ht3 : t.length ≤ 3 := by
        have hall : ∀ t ∈ refS, t.length ≤ 3 := by decide
        exact hall t (List.mem_of_getElem? hit)
      have hst := st_size t
      have hw1 : IntKind.i64.wrap ((s.size : Int) - (j : Int)) = (s.size : Int) - j := by rw [IntKind.wrap_i64]; omega
      have hw2 : IntKind.i64.wrap ((j : Int) + (t.length : Int)) = (j : Int) + (t.length : Int) := by rw [IntKind.wrap_i64]; omega
      clear hc
      by_cases hlen : t.length ≤ s.size - j
      · have hle : decide ((t.length : Int) ≤ (s.size : Int) - (j : Int)) = true := by simp; omega
        have HX := Lib.hid (extract_mid s j (j + t.length))
        have hsz := extract_mid s j (j + t.length)
        rw [show j + t.length - j = t.length by omega] at hsz
        by_cases heq : s.extract j (j + t.length) = st t
        · have hq : ((s.extract j (j + t.length)).toList == (st t).toList) = true := by rw [eq_list]; simpa using heq
          have HH := Lib.hid (show sgR (s.data.toList.drop j) = t by
            unfold sgR
            rw [sgR_hit _ refS i t hit (by rw [← hsz, heq, st_data]) (fun u hu => HN.out u hu)]; rfl)
          clear heq hsz hit
          go_wp2
          go_quiet (fail)
          go_wp2
          go_ret
          exact ⟨j, congrArg (fun v => Ending.returned (Value.string (st v))) HH.out.symm, HR2.out, HF2.out.drewN _, hkj, hj, HT.out⟩
        · have hq : ((s.extract j (j + t.length)).toList == (st t).toList) = false := by rw [eq_list]; simpa using heq
          have HH := Lib.hid (show ∀ u ∈ refS.take (i + 1), (s.data.toList.drop j).take u.length ≠ u from sg_next hit HN.out (fun e => heq (by rw [← st_of (s.extract _ _), hsz, e])))
          clear heq hsz hit
          go_wp2
          go_quiet (fail)
          go_wp2
          exact ⟨⟨i + 1, rfl, by omega, HR2.out, HF2.out.drewN _, HC.out, HH.out⟩, by simp [intOf]; omega⟩
      · have hle : decide ((t.length : Int) ≤ (s.size : Int) - (j : Int)) = false := by simp; omega
        have HH := Lib.hid (show ∀ u ∈ refS.take (i + 1), (s.data.toList.drop j).take u.length ≠ u from sg_next hit HN.out (fun e => by
          have := congrArg List.length e
          rw [List.length_take, List.length_drop, size_len] at this
          omega))
        clear hit
        go_wp2
        go_quiet (fail)
        go_wp2
        exact ⟨⟨i + 1, rfl, by omega, HR2.out, HF2.out.drewN _, HC.out, HH.out⟩, by simp [intOf]; omega⟩
    · obtain rfl : i = 35 := by omega
      have HH := Lib.hid (sgR_none (s.data.toList.drop j) (fun u hu => HN.out u (by rw [List.take_of_length_le (show refS.length ≤ 35 by decide)]; exact hu)))
      go_wp2
      go_ret
      exact ⟨j, congrArg (fun v => Ending.returned (Value.string (st v))) HH.out.symm, HR2.out, HF2.out, hkj, hj, HT.out⟩
end Go.Proofs.YtbmnngliapmgfaaGreatDoor
