/- Contract of the document's Change. -/
import Derived.Test.YtjopmchbphjliaaGreatDoorD1
import Derived.Test.YtjopmchbphjliaaGreatDoorC1
namespace Go.Proofs.YtjopmchbphjliaaGreatDoor
open Go.RowKit Go.Shelf

theorem cells_addr {w : World} {a : Addr} {n : Nat} {us : List Usr} (h : InUsers w (some a) n us) : ∀ j v, (usCells us)[j]? = some v → w.cell? (a.add j) = some v := by
  intro j v hj
  have hjl := (List.getElem?_eq_some_iff.1 hj).1
  rw [usCells_len] at hjl
  have h0 : us[0]? = some us[0] := List.getElem?_eq_getElem (by omega)
  obtain ⟨_, b, off, hp, _⟩ := h.2 0 _ h0
  cases hp
  rw [Addr.add_lit]
  have hl := h.1
  subst hl
  exact cells_row h j v hj
theorem users_none {w : World} {n : Nat} {us : List Usr} (h : InUsers w none n us) : us = [] ∧ n = 0 := by
  cases us with
  | nil => exact ⟨rfl, h.1.symm⟩
  | cons u r => obtain ⟨_, _, _, hp, _⟩ := h.2 0 u rfl; cases hp
theorem users_ok {w : World} {p : Option Addr} {n : Nat} {us : List Usr} (h : InUsers w p n us) : ∀ u ∈ us, OkU u := by
  intro u hu
  obtain ⟨j, hj⟩ := List.getElem?_of_mem hu
  exact (h.2 j u hj).1
theorem rchange_res (W : World) (v : Value) (b : Bool) (tmps : Array Value) (h6 : tmps.getD 6 undef = v) (h7 : tmps.getD 7 undef = .bool b) :
    (results Tryz.f19 tmps).run Tryz.prog W = .ok (.tuple #[v, .bool b]) W := by
  simp only [Array.getD_eq_getD_getElem?] at h6 h7
  simp only [results, Tryz.f19]
  simp [go_sem, h6, h7]
theorem any_hit (q : Usr → Bool) (us : List Usr) (k : Nat) (u : Usr) (hk : us[k]? = some u) (hq : q u = true) : us.any q = true := List.any_eq_true.2 ⟨u, List.mem_of_getElem? hk, hq⟩
theorem chU_hit (q : Usr → Bool) (t : ByteArray) (us : List Usr) (k : Nat) (u : Usr) (hk : us[k]? = some u) (hq : q u = true) (hn : ∀ j v, j < k → us[j]? = some v → q v = false) : chU q t us = us.set k (setP u t) := by
  have h := findI_hit q us k u hk hq hn
  obtain ⟨k', h1, h2, _⟩ := found_at q us (by omega)
  obtain rfl : k' = k := by omega
  rw [hk] at h2
  unfold chU
  rw [h1, ← Option.some.inj h2]; rfl
set_option maxRecDepth 100000 in
set_option maxHeartbeats 3200000 in
theorem rchange_any (p : Option Addr) (n cap : Nat) (us : List Usr) (s t : ByteArray) (w : World) (hin : InUsers w p n us) (hn : n ≤ 1000) :
    Calls Tryz.prog 19 #[.slice p n cap, .string s, .string t] w fun e w' => ∃ v, e = .returned (.tuple #[v, .bool (us.any (qName s))]) ∧
      (if us.any (qName s) = true then w'.ownsRow w.heap.size 29 6 v n (usCells (chU (qName s) t us)) else v = .slice none 0 0) ∧ Below w.heap.size w w' := by
  cases p with
  | none =>
    obtain ⟨rfl, rfl⟩ := users_none hin
    rw [show ([] : List Usr).any (qName s) = false from rfl]
    clear hin
    go_enter Tryz.func19, Tryz.ntmps19
    go_wp2_with fail
    go_loopw [9] (fun i wr => i = .int .i64 0 ∧ Below w.heap.size w wr) (fun i _ => 0)
    case atStart => exact ⟨rfl, by first | exact (Below.refl _ w).alloc (Nat.le_refl _) _ | exact ((Below.refl _ w).alloc (Nat.le_refl _) _).drew⟩
    case round =>
      obtain ⟨rfl, hR⟩ := hrel
      go_wp2
      exact bodyPost_ret (rchange_res _ (.slice none 0 0) false _ rfl rfl) rfl ⟨_, rfl, by simp, hR⟩
  | some a =>
    obtain ⟨i0, hi, hz0, hz1, hz2⟩ := info_parts Tryz.infoUser
    have hlen := hin.1
    subst hlen
    have Hc := Lib.hid (cells_addr hin)
    have Hok := Lib.hid (users_ok hin)
    obtain ⟨aa, ha⟩ : ∃ aa, us.any (qName s) = aa := ⟨_, rfl⟩
    rw [ha]
    have Haa := Lib.hid ha
    clear hin ha
    go_enter Tryz.func19, Tryz.ntmps19
    go_wp2_with (at_builtin; refine wpList_append_own _ rfl _ _ 23 rfl w.heap.size 29 i0 (.agg #[.string ByteArray.empty, .string ByteArray.empty, .int .i64 0, .int .i64 0, .string ByteArray.empty, .string ByteArray.empty]) 6 80 Tryz.underlying23 hi hz0 hz1 hz2 rfl (by decide) _ _ _ rfl (World.ownsRow_made w #[] 0 (Nat.le_refl _) (Nat.zero_le _) (by simp)) a us.length cap (usCells us) rfl ?qc1 ?qc2 ?qc3 ?qc4 ?qc5 ?qc6 ?_)
    case qc1 => exact usCells_len us
    case qc2 => exact fun j u hj => Lib.cell?_alloc_some _ (Hc.out j u hj)
    case qc3 => exact usCells_one us
    case qc4 => rw [Nat.zero_add]; unfold maxLen; omega
    case qc5 => rw [Nat.zero_add]; omega
    case qc6 => simp
    intro v' w1 hown hgrow _
    have hown2 : w1.ownsRow w.heap.size 29 6 v' us.length (usCells us) := by simpa using hown
    have hbel : Below w.heap.size w w1 := ((Below.refl _ w).alloc (Nat.le_refl _) _).grown hgrow (by simp) (by intro k hk; simp [Value.ownBlock] at hk; omega)
    clear hown hgrow hi hz0 hz1 hz2
    obtain ⟨q, c, rfl⟩ : ∃ q c, v' = .slice q us.length c := by
      rcases hown2.2 with ⟨h, h0⟩ | ⟨g', c', _, h, _⟩
      · exact ⟨none, 0, by rw [h, h0]⟩
      · exact ⟨_, _, h⟩
    obtain ⟨hin1, -, hc1, hc2⟩ := InUsers.of_row hown2 Hok.out
    have Hin := Lib.hid hin1
    have Hown := Lib.hid hown2
    unfold maxLen at hc2
    clear hin1 hown2
    go_wp2
    go_loopw [9] (fun i wr => ixRel w1 (qName s) us i wr) (fun i _ => us.length - (intOf i).toNat)
    case atStart => exact ⟨0, Nat.zero_le _, rfl, Below.refl _ _, fun j v h => absurd h (Nat.not_lt_zero _)⟩
    case round =>
      obtain ⟨k, hk, rfl, hR, hno⟩ := hrel
      have Hno := Lib.hid hno
      clear hno
      have hbr : Below w.heap.size w wr := hbel.trans (hR.mono hbel.size)
      by_cases hlt : k < us.length
      · have hu : us[k]? = some us[k] := List.getElem?_eq_getElem hlt
        obtain ⟨hok, b, off, hpp, hcx⟩ := Hin.out.2 k _ hu
        have hcw := hcx.below hR hcx.lt
        generalize us[k] = u at hu hcw
        subst hpp
        obtain ⟨c0, c1, c2, c3, c4, c5⟩ := hcw
        have Hu := Lib.hid hu
        clear hu hcx hok
        cases hq : qName s u
        · have Hq := Lib.hid hq
          unfold qName at hq
          go_wp2
          go_roundw
          case rel => exact ⟨k + 1, by omega, by go_num, hR, ix_next Hu.out Hq.out Hno.out⟩
          case measure => simp [intOf]; omega
        · obtain rfl : aa = true := Haa.out.symm.trans (any_hit (qName s) us k u Hu.out hq)
          have Hch := Lib.hid (chU_hit (qName s) t us k u Hu.out hq Hno.out)
          unfold qName at hq
          have hrow := row_below Hown.out hR
          obtain ⟨rfl, hg⟩ : off = 0 ∧ w.heap.size ≤ b := by
            rcases hrow.2 with ⟨h, _⟩ | ⟨g', _, _, h, hg, _⟩
            · cases h
            · cases h; exact ⟨rfl, hg⟩
          have hf := hrow.frozenAt (k * 6 + 1)
          have hrow3 := change_row hrow Hu.out t
          rw [← Hch.out] at hrow3
          have hb5 := hbr.setCell (p := ⟨b, k * 6 + 1, none⟩) hg (.string t)
          have Hrow3 := Lib.hid hrow3
          rw [Nat.zero_add] at c0 c1 c2 c3 c4 c5
          clear hrow hrow3 Hown
          go_wp2
          exact bodyPost_ret (rchange_res _ _ true _ rfl rfl) rfl ⟨_, rfl, Hrow3.out, hb5⟩
      · obtain rfl : k = us.length := by omega
        obtain rfl : aa = false := Haa.out.symm.trans (show us.any (qName s) = false by
          rw [List.any_eq_false]
          intro u hu
          obtain ⟨j, hj⟩ := List.getElem?_of_mem hu
          rw [Hno.out j u (List.getElem?_eq_some_iff.1 hj).1 hj]; decide)
        clear Hown
        go_wp2
        exact bodyPost_ret (rchange_res _ (.slice none 0 0) false _ rfl rfl) rfl ⟨_, rfl, by simp, hbr⟩
end Go.Proofs.YtjopmchbphjliaaGreatDoor
