/- Contracts of slices.Clone and Change. -/
import Derived.Test.YtjopmchbphjliaaGreatDoorG2
import Derived.Test.YtjopmchbphjliaaGreatDoorF1
namespace Go.Proofs.YtjopmchbphjliaaGreatDoor
open Go.RowKit Go.Shelf

def setP (u : Usr) (p : ByteArray) : Usr := ⟨u.name, p, u.id, u.grp, u.home, u.shell⟩
/-- with another password for the first user of whom q holds. -/
def chU (q : Usr → Bool) (p : ByteArray) (us : List Usr) : List Usr := us.set (findI q us).toNat (setP (findU q us) p)
theorem chU_len (q : Usr → Bool) (p : ByteArray) (us : List Usr) : (chU q p us).length = us.length := by unfold chU; simp
theorem chU_find (q : Usr → Bool) (p : ByteArray) (hq : ∀ u, q (setP u p) = q u) : ∀ us, 0 ≤ findI q us → (chU q p us).find? q = some (setP (findU q us) p)
  | [], h => by simp [findI] at h
  | x :: xs, h => by
    by_cases hx : q x = true
    · have h0 : findI q (x :: xs) = 0 := by unfold findI; rw [if_pos hx]
      have hu : findU q (x :: xs) = x := by unfold findU; rw [List.find?_cons, hx]; rfl
      unfold chU
      rw [h0, hu]
      show (setP x p :: xs).find? q = _
      rw [List.find?_cons, hq, hx]
    · have hx' : q x = false := Bool.eq_false_iff.2 hx
      have hu : findU q (x :: xs) = findU q xs := by unfold findU; rw [List.find?_cons, hx']
      have h0 : findI q (x :: xs) = if findI q xs < 0 then -1 else findI q xs + 1 := by
        show (if q x = true then _ else _) = _
        rw [if_neg hx]
      by_cases h1 : findI q xs < 0
      · rw [h0, if_pos h1] at h; exact absurd h (by decide)
      · rw [if_neg h1] at h0
        unfold chU
        rw [h0, hu, show (findI q xs + 1).toNat = (findI q xs).toNat + 1 by omega, List.set_cons_succ, List.find?_cons, hx']
        exact chU_find q p hq xs (by omega)
theorem chU_found (q : Usr → Bool) (p : ByteArray) (hq : ∀ u, q (setP u p) = q u) (us : List Usr) (h : 0 ≤ findI q us) : foundV q (chU q p us) = .tuple #[(setP (findU q us) p).val, .bool true] := by
  have hf := chU_find q p hq us h
  have ha : (chU q p us).any q = true := List.any_eq_true.2 ⟨_, List.mem_of_find?_eq_some hf, List.find?_some hf⟩
  have hu : findU q (chU q p us) = setP (findU q us) p := by
    show ((chU q p us).find? q).getD noUsr = _
    rw [hf]; rfl
  unfold foundV
  rw [hu, ha]
theorem usCells_set (p : ByteArray) : ∀ (us : List Usr) (k : Nat) (u : Usr), us[k]? = some u → (usCells us).set (k * 6 + 1) (.string p) = usCells (us.set k (setP u p))
  | [], k, u, h => by simp at h
  | x :: xs, 0, u, h => by
    simp at h; subst h
    rfl
  | x :: xs, k + 1, u, h => by
    have ih := usCells_set p xs k u (by simpa using h)
    unfold usCells at ih ⊢
    rw [List.set_cons_succ, List.flatMap_cons, List.flatMap_cons, ← ih]
    have hl : x.cells.length = 6 := rfl
    rw [List.set_append_right _ _ (by omega), hl, show (k + 1) * 6 + 1 - 6 = k * 6 + 1 by omega]
theorem cells_row {w : World} {b off : Nat} {us : List Usr} (h : InUsers w (some ⟨b, off, none⟩) us.length us) : ∀ j v, (usCells us)[j]? = some v → w.cell? ⟨b, off + j, none⟩ = some v := by
  intro j v hj
  have hjl := (List.getElem?_eq_some_iff.1 hj).1
  rw [usCells_len] at hjl
  have hk : j / 6 < us.length := by omega
  have hu : us[j / 6]? = some us[j / 6] := List.getElem?_eq_getElem hk
  have e : j = j / 6 * 6 + j % 6 := by omega
  have hc := usCells_at us (j / 6) _ hu (j % 6) (by omega)
  rw [← e, hj] at hc
  obtain ⟨_, g, o, hp, c0, c1, c2, c3, c4, c5⟩ := h.2 (j / 6) _ hu
  obtain ⟨rfl, rfl⟩ : b = g ∧ off = o := by cases hp; exact ⟨rfl, rfl⟩
  generalize us[j / 6] = u at hc c0 c1 c2 c3 c4 c5
  have hr : j % 6 < 6 := by omega
  rw [e, ← Nat.add_assoc]
  generalize j % 6 = r at hr hc ⊢
  match r, hr, hc with
  | 0, _, hc => rw [Nat.add_zero, c0]; exact hc.symm
  | 1, _, hc => rw [c1]; exact hc.symm
  | 2, _, hc => rw [c2]; exact hc.symm
  | 3, _, hc => rw [c3]; exact hc.symm
  | 4, _, hc => rw [c4]; exact hc.symm
  | 5, _, hc => rw [c5]; exact hc.symm
theorem usCells_one (us : List Usr) : ∀ v ∈ usCells us, v.oneCell' = true := by
  intro v hv
  unfold usCells at hv
  obtain ⟨u, _, hu⟩ := List.mem_flatMap.1 hv
  exact cells6_one u v hu
set_option maxRecDepth 100000 in
set_option maxHeartbeats 3200000 in
theorem clone_any (b off n cap : Nat) (us : List Usr) (w : World) (hin : InUsers w (some ⟨b, off, none⟩) n us) (hn : n ≤ 1000) (h0 : 0 < n) :
    Calls Tryz.prog 34 #[.slice (some ⟨b, off, none⟩) n cap] w fun e w' => ∃ g c, e = .returned (.slice (some ⟨g, 0, none⟩) n c) ∧ w'.ownsRow w.heap.size 29 6 (.slice (some ⟨g, 0, none⟩) n c) n (usCells us) ∧ Below w.heap.size w w' := by
  have q22 : ∀ (w : World), (binOp .eql 23 (.slice (some ⟨b, off, none⟩) n cap) (.slice none 0 0)).run Tryz.prog w = .ok (.bool false) w := fun w => Lib.run_eql_slice_nil w _ _ _ _ _ _ _ Tryz.underlying23
  obtain ⟨i0, hi, hz0, hz1, hz2⟩ := info_parts Tryz.infoUser
  have hlen := hin.1
  subst hlen
  have hc := cells_row hin
  have Hc := Lib.hid hc
  clear hin hc
  go_enter Tryz.func34, Tryz.ntmps34
  go_wp2_with (at_builtin; refine wpList_append_own _ rfl _ _ 23 rfl w.heap.size 29 i0 (.agg #[.string ByteArray.empty, .string ByteArray.empty, .int .i64 0, .int .i64 0, .string ByteArray.empty, .string ByteArray.empty]) 6 80 Tryz.underlying23 hi hz0 hz1 hz2 rfl (by decide) _ _ _ rfl (World.ownsRow_made w #[] 0 (Nat.le_refl _) (Nat.zero_le _) (by simp)) ⟨b, off, none⟩ us.length cap (usCells us) rfl ?qc1 ?qc2 ?qc3 ?qc4 ?qc5 ?qc6 ?_)
  case qc1 => exact usCells_len us
  case qc2 =>
    intro j u hj
    rw [Addr.add_lit]
    exact Lib.cell?_alloc_some _ (Hc.out j u hj)
  case qc3 => exact usCells_one us
  case qc4 => rw [Nat.zero_add]; unfold maxLen; omega
  case qc5 => rw [Nat.zero_add]; omega
  case qc6 => simp
  intro v' w1 hown hgrow _
  have hown2 : w1.ownsRow w.heap.size 29 6 v' us.length (usCells us) := by simpa using hown
  have hbel : Below w.heap.size w w1 := ((Below.refl _ w).alloc (Nat.le_refl _) _).grown hgrow (by simp) (by intro k hk; simp [Value.ownBlock] at hk; omega)
  clear hown hgrow
  go_wp2
  go_ret
  obtain ⟨m, hm⟩ : ∃ m, us.length = m + 1 := ⟨us.length - 1, by omega⟩
  have h3 := hown2
  rw [hm] at h3
  obtain ⟨g, c, rfl⟩ := ownsRow_succ h3
  rw [← hm] at hown2 ⊢
  exact ⟨g, c, rfl, hown2, hbel⟩
/-- the slice of Change, and what it holds. -/
theorem change_row {w w1 : World} {g c n k : Nat} {us : List Usr} {u : Usr} (hown : w1.ownsRow w.heap.size 29 6 (.slice (some ⟨g, 0, none⟩) n c) n (usCells us)) (hu : us[k]? = some u) (p : ByteArray) :
    (w1.setCell ⟨g, k * 6 + 1, none⟩ (.string p)).ownsRow w.heap.size 29 6 (.slice (some ⟨g, 0, none⟩) n c) n (usCells (us.set k (setP u p))) := by
  have h := (hown.stored (k * 6 + 1) (.string p)).1
  rw [usCells_set p us k u hu] at h
  exact h
theorem change_res (W : World) (v : Value) (b : Bool) (tmps : Array Value) (h6 : tmps.getD 6 undef = v) (h7 : tmps.getD 7 undef = .bool b) :
    (results Tryz.f18 tmps).run Tryz.prog W = .ok (.tuple #[v, .bool b]) W := by
  simp only [Array.getD_eq_getD_getElem?] at h6 h7
  simp only [results, Tryz.f18]
  simp [go_sem, h6, h7]
set_option maxRecDepth 100000 in
set_option maxHeartbeats 3200000 in
theorem change_any (p : Option Addr) (n cap : Nat) (us : List Usr) (s t : ByteArray) (w : World) (hin : InUsers w p n us) (hn : n ≤ 1000) :
    Calls Tryz.prog 18 #[.slice p n cap, .string s, .string t] w fun e w' => ∃ v, e = .returned (.tuple #[v, .bool (us.any (qName s))]) ∧
      (if us.any (qName s) = true then w'.ownsRow w.heap.size 29 6 v n (usCells (chU (qName s) t us)) else v = .slice none 0 0) ∧ Below w.heap.size w w' := by
  have hb0 : Below w.heap.size w (w.alloc (.cells #[.string s] 9)) := (Below.refl _ w).alloc (Nat.le_refl _) _
  have hcon := index_any (qName s) 51 #[.pointer (some ⟨w.heap.size, 0, none⟩)] enters_named1 p n cap us _ (hin.below hb0 (Nat.le_refl _)) (by unfold maxLen; omega)
    (named1_any s w.heap.size _ (by simp) ((Boxed.new w 9 (.string s)).cell))
  have Hin := Lib.hid hin
  clear hin
  rcases found_two (qName s) us with ⟨hf, ha⟩ | ⟨k, hf, hk, ha⟩
  · rw [ha]
    generalize findI (qName s) us = r at hf hcon
    clear ha
    go_enter Tryz.func18, Tryz.ntmps18
    go_wp2_with (first | (go_at_call 31; refine (named_any s _).mono ?_; rintro e w' ⟨rfl, rfl⟩) | (go_at_call 33; refine hcon.mono ?_; rintro e w' ⟨rfl, hb1⟩))
    exact bodyPost_ret (change_res _ (.slice none 0 0) false _ rfl rfl) rfl ⟨_, rfl, by simp, hb0.trans (hb1.mono (by simp))⟩
  · rw [ha]
    rw [hf] at hcon
    have Hch := Lib.hid (show chU (qName s) t us = us.set k (setP (findU (qName s) us) t) by unfold chU; rw [hf]; rfl)
    generalize findU (qName s) us = u at hk Hch
    have hkl := (List.getElem?_eq_some_iff.1 hk).1
    have hlen := Hin.out.1
    obtain ⟨_, b, off, hpp, _⟩ := Hin.out.2 k u hk
    subst hpp
    have Hk := Lib.hid hk
    clear hf ha hk
    go_enter Tryz.func18, Tryz.ntmps18
    go_wp2_with (first | (go_at_call 31; refine (named_any s _).mono ?_; rintro e w' ⟨rfl, rfl⟩) | (go_at_call 33; refine hcon.mono ?_; rintro e w' ⟨rfl, hb1⟩))
    have hb2 : Below w.heap.size w w' := hb0.trans (hb1.mono (by simp))
    have hcl := clone_any b off n cap us w' (Hin.out.below hb2 (Nat.le_refl _)) hn (by omega)
    clear hb0 hb1 hcon
    go_wp2_with fail
    refine hcl.mono ?_
    rintro e w2 ⟨g, c, rfl, hown, hb3⟩
    have hb4 := next hb2 hb2.size hb3
    have hown4 : w2.ownsRow w.heap.size 29 6 (.slice (some ⟨g, 0, none⟩) n c) n (usCells us) := ⟨hown.1, hown.2.imp id fun ⟨g, cap, cur, h1, h2, h3⟩ => ⟨g, cap, cur, h1, Nat.le_trans hb2.size h2, h3⟩⟩
    have hg : w.heap.size ≤ g := by
      rcases hown4.2 with ⟨h, _⟩ | ⟨g', _, _, h, hg, _⟩
      · cases h
      · cases h; exact hg
    have hrow := change_row hown4 Hk.out t
    rw [← Hch.out] at hrow
    have hb5 := hb4.setCell (p := ⟨g, k * 6 + 1, none⟩) hg (.string t)
    have hlen := Hin.out.1
    have hcell : w2.cell? ⟨g, k * 6 + 1, none⟩ = some (.string u.pass) := by
      rw [hown4.cellAt (k * 6 + 1) (by omega), usCells_at us k u Hk.out 1 (by decide)]; rfl
    have hfroz := hown4.frozenAt (k * 6 + 1)
    clear hown hb2 hb3 hb4 hcl Hin hown4
    go_wp2
    exact bodyPost_ret (change_res _ _ true _ rfl rfl) rfl ⟨_, rfl, hrow, hb5⟩
end Go.Proofs.YtjopmchbphjliaaGreatDoor
