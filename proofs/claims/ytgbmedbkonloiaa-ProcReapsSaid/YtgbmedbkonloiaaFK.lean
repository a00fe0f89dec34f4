/- Contract of the program's Wait. -/
import Derived.Test.YtgbmedbkonloiaaFJ
namespace Go.Proofs.Ytgbmedbkonloiaa
open Go.RowKit Go.Maps Go.Sort
set_option linter.unusedVariables false
set_option linter.unusedSimpArgs false
variable {W W' : World} {B T M : Nat} {nb : Int → Nat} {v : Value} {L : List Pr} {last : Int} {us : List Int} {S : Nat → Prop} {s : TB}
theorem ownG_form0 {B n size : Nat} {e : TypeId} {v : Value} {xs : List Value} (h : W.ownsRow B e size v n xs) : ∃ ao cap, v = .slice ao n cap ∧ n ≤ cap := by
  rcases h.2 with ⟨rfl, rfl⟩ | ⟨g, cap, cur, rfl, _, _, hc, _⟩
  · exact ⟨_, _, rfl, Nat.le_refl _⟩
  · exact ⟨_, _, rfl, hc⟩
def w3V (x : Int × Int × Int) : Value := .tuple #[.int .i64 x.1, .int .i64 x.2.1, .int .i64 x.2.2]
theorem find_at {L : List Pr} {k : Nat} {p : Pr} {f : Pr → Bool} (h : ∀ q ∈ L.take k, f q = false) (hp : L[k]? = some p) (hf : f p = true) : L.find? f = some p := by
  have hk : k < L.length := (List.getElem?_eq_some_iff.1 hp).1
  have hd : L.drop k = p :: L.drop (k + 1) := by
    rw [List.drop_eq_getElem_cons hk]
    have := (List.getElem?_eq_some_iff.1 hp).2
    rw [this]
  have e : L = L.take k ++ p :: L.drop (k + 1) := by rw [← hd, List.take_append_drop]
  rw [e, List.find?_append, List.find?_eq_none.2 (fun q hq => by rw [h q hq]; decide), List.find?_cons, hf]
  rfl
theorem take_more {L : List Pr} {k : Nat} {p : Pr} {f : Pr → Bool} (h : ∀ q ∈ L.take k, f q = false) (hp : L[k]? = some p) (hf : f p = false) : ∀ q ∈ L.take (k + 1), f q = false := by
  intro q hq
  rw [List.take_add_one, hp] at hq
  rcases List.mem_append.1 hq with hq | hq
  · exact h q hq
  · simp at hq; subst hq; exact hf
theorem any_more {L : List Pr} {k : Nat} {p : Pr} (f : Pr → Bool) (hp : L[k]? = some p) : (L.take (k + 1)).any f = ((L.take k).any f || f p) := by
  rw [List.take_add_one, hp, List.any_append]
  simp
theorem row_cells {B g cap : Nat} {t : TypeId} (h : W.ownsRow B t 7 (.slice (some ⟨g, 0, none⟩) L.length cap) L.length (rowsC L)) {k : Nat} {p : Pr} (hp : L[k]? = some p) : ∀ j u, (prC p)[j]? = some u → W.cell? ⟨g, k * 7 + j, none⟩ = some u := by
  intro j u hj
  have hk : k < L.length := (List.getElem?_eq_some_iff.1 hp).1
  have hj7 : j < 7 := by have := (List.getElem?_eq_some_iff.1 hj).1; simpa [prC] using this
  rw [h.cellAt (k * 7 + j) (by omega), rowsC_get L k p hp j hj7, hj]
def waRel (w2 : World) (L : List Pr) (a c : Int) (iv ev : Value) (wr : World) : Prop :=
  ∃ k : Nat, iv = .int .i64 k ∧ k ≤ L.length ∧ ev = .int .i64 (if (L.take k).any (kid a c) = true then 0 else 16) ∧ (∀ q ∈ L.take k, gone a c q = false) ∧ Fr (fun _ => False) w2 wr
theorem kid_cases (a c : Int) (p : Pr) : (kid a c p = false ∧ (p.parent == a) = false) ∨ (kid a c p = true ∧ (p.parent == a) = true ∧ ¬ 1 ≤ c) ∨
    (kid a c p = false ∧ (p.parent == a) = true ∧ 1 ≤ c ∧ (p.pid == c) = false) ∨ (kid a c p = true ∧ (p.parent == a) = true ∧ 1 ≤ c ∧ (p.pid == c) = true) := by
  unfold kid
  cases h1 : (p.parent == a)
  · exact .inl ⟨by simp, rfl⟩
  · by_cases h2 : 1 ≤ c
    · cases h3 : (p.pid == c)
      · exact .inr (.inr (.inl ⟨by simp [h2, bne, h3], rfl, h2, rfl⟩))
      · exact .inr (.inr (.inr ⟨by simp [h2, bne, h3], rfl, h2, rfl⟩))
    · exact .inr (.inl ⟨by simp [h2], rfl, h2⟩)
theorem wait_none {a c : Int} (h : liveP s.L a = none) : waitV s a c = (0, 0, 3) ∧ waitT s a c = s := by
  unfold waitV waitT
  rw [h]
  exact ⟨rfl, rfl⟩
theorem wait_gone {a c : Int} {p0 p : Pr} (h : liveP s.L a = some p0) (hf : s.L.find? (gone a c) = some p) : waitV s a c = (p.pid, p.status, 0) ∧ waitT s a c = ⟨dropP p.pid s.L, s.last, s.users⟩ := by
  unfold waitV waitT
  rw [h]
  simp only [hf, and_self]
theorem wait_not {a c : Int} {p0 : Pr} (h : liveP s.L a = some p0) (hf : s.L.find? (gone a c) = none) : waitV s a c = (0, 0, if s.L.any (kid a c) = true then 0 else 16) ∧ waitT s a c = s := by
  unfold waitV waitT
  rw [h]
  simp only [hf]
  refine ⟨?_, trivial⟩
  split <;> rfl
set_option maxRecDepth 100000 in
set_option maxHeartbeats 8000000 in
theorem wait_any (a c : Int) (ha : I64 a) (h : TAt W B T S s) (hs : Sd s) (hb : s.last ≤ 1000000) :
    Calls Try.prog 19 #[.pointer (some ⟨T, 0, none⟩), .int .i64 a, .int .i64 c] W fun e w' => e = .returned (w3V (waitV s a c)) ∧ Does W B T S (waitT s a c) w' := by
  have HT := Lib.hid h
  obtain ⟨M, nb, v, h1, hS⟩ := h
  have hL := live_any a ha h1
  cases hl : liveP s.L a with
  | none =>
    rw [liveV_none hl] at hL
    rw [(wait_none hl).1, (wait_none hl).2]
    clear h1 hl hs
    go_enter Try.func19, Try.ntmps19
    go_wp2_with (go_at_call 31; refine hL.mono ?_; rintro e w' ⟨rfl, rfl⟩)
    go_ret3
    exact ⟨rfl, HT.out.does⟩
  | some p0 =>
    rw [liveV_some hl] at hL
    have HW1 := Lib.hid fun p hf => wait_gone (s := s) (a := a) (c := c) (p := p) hl hf
    have HW2 := Lib.hid fun hf => wait_not (s := s) (a := a) (c := c) hl hf
    have HL := Lib.hid hL
    have HALL := Lib.hid (all_any h1 hs.asc hs.rng hs.len hb)
    have HP := Lib.hid h1
    have hlen := hs.len
    have HSD := Lib.hid hs
    clear hL h1 hl hs
    go_enter Try.func19, Try.ntmps19
    go_wp2_with (first
      | (go_at_call 31; refine HL.out.mono ?_; rintro e w' ⟨rfl, rfl⟩)
      | (go_at_call 16; refine HALL.out.mono ?_; rintro e w2 ⟨v', rfl, hrow, hF⟩; obtain ⟨ao, cap, rfl, hcap⟩ := ownG_form0 hrow))
    have HROW := Lib.hid hrow
    have HF := Lib.hid hF
    clear hrow hF HALL HL
    go_loopw [19, 9] (fun iv ev wr => waRel w2 s.L a c iv ev wr) (fun iv _ _ => s.L.length - (Lib.intOf iv).toNat)
    case atStart => exact ⟨0, rfl, Nat.zero_le _, rfl, by intro q hq; simp at hq, Fr.refl _ _⟩
    case round =>
      obtain ⟨k, rfl, hk, rfl, hno, hFr⟩ := hrel
      have HNO := Lib.hid hno
      have HFr := Lib.hid hFr
      have hfall : Fr (fun _ => False) W wr := HF.out.trans hFr
      have HFA := Lib.hid hfall
      clear hno hFr hfall
      generalize hev : (if (s.L.take k).any (kid a c) = true then (0 : Int) else 16) = ev
      have HEV := Lib.hid hev
      clear hev
      by_cases hlt : k < s.L.length
      · have hp : s.L[k]? = some (s.L[k]'hlt) := List.getElem?_eq_getElem _
        have hmem : s.L[k]'hlt ∈ s.L := List.getElem_mem _
        generalize s.L[k]'hlt = p at hp hmem
        obtain ⟨g, cap', hv, hg1, hg2⟩ := HROW.out.form (by omega)
        cases hv
        have hcs := row_cells HROW.out hp
        have e0 : wr.cell? ⟨g, k * 7, none⟩ = some (.int .i64 p.pid) := HFr.out.cell (hcs 0 _ rfl) id
        have e1 : wr.cell? ⟨g, k * 7 + 1, none⟩ = some (.int .i64 p.parent) := HFr.out.cell (hcs 1 _ rfl) id
        have e2 : wr.cell? ⟨g, k * 7 + 2, none⟩ = some (.int .i64 p.user) := HFr.out.cell (hcs 2 _ rfl) id
        have e3 : wr.cell? ⟨g, k * 7 + 3, none⟩ = some (.int .i64 p.session) := HFr.out.cell (hcs 3 _ rfl) id
        have e4 : wr.cell? ⟨g, k * 7 + 4, none⟩ = some (.int .i64 p.status) := HFr.out.cell (hcs 4 _ rfl) id
        have e5 : wr.cell? ⟨g, k * 7 + 5, none⟩ = some (.bool p.dead) := HFr.out.cell (hcs 5 _ rfl) id
        have e6 : wr.cell? ⟨g, k * 7 + 6, none⟩ = some (.bool p.reserve) := HFr.out.cell (hcs 6 _ rfl) id
        have i1 : (0 : Int) ≤ (k : Int) := by omega
        have i2 : (k : Int) < (s.L.length : Int) := by omega
        have HAN := Lib.hid (any_more (kid a c) hp)
        have HFA2 := Lib.hid ((HFr.out).alloc (.cells (prC p).toArray 32))
        have key := kid_cases a c p
        clear hcs
        rcases key with ⟨hkd, t1⟩ | ⟨hkd, t1, t2⟩ | ⟨hkd, t1, t2, t3⟩ | ⟨hkd, t1, t2, t3⟩
        · have t1' : (p.parent != a) = true := by rw [bne, t1]; rfl
          have hg0 : gone a c p = false := by unfold gone; rw [hkd]; rfl
          have HT2 := Lib.hid (take_more HNO.out hp hg0)
          have HKD := Lib.hid hkd
          clear hp hkd hg0 hmem
          go_wp2
          go_roundw
          case rel => exact ⟨k + 1, by go_num, by omega, by rw [← HEV.out, HAN.out, HKD.out, Bool.or_false], HT2.out, HFA2.out⟩
          case measure => simp [Lib.intOf]; omega
        · have t1' : (p.parent != a) = false := by rw [bne, t1]; rfl
          cases hd : p.dead
          · rw [hd] at e5
            have hpc : (prC p).toArray = #[.int .i64 p.pid, .int .i64 p.parent, .int .i64 p.user, .int .i64 p.session, .int .i64 p.status, .bool false, .bool p.reserve] := by unfold prC; rw [hd]
            rw [hpc] at HFA2
            have hg0 : gone a c p = false := by unfold gone; rw [hd, Bool.and_false]
            have HT2 := Lib.hid (take_more HNO.out hp hg0)
            have HKD := Lib.hid hkd
            clear hp hkd hg0 hmem hd
            go_wp2
            go_roundw
            case rel => exact ⟨k + 1, by go_num, by omega, by rw [HAN.out, HKD.out, Bool.or_true]; rfl, HT2.out, HFA2.out⟩
            case measure => simp [Lib.intOf]; omega
          · rw [hd] at e5
            have hg1 : gone a c p = true := by unfold gone; rw [hkd, hd]; rfl
            have HFI := Lib.hid (HW1.out p (find_at HNO.out hp hg1))
            have hpc : (prC p).toArray = #[.int .i64 p.pid, .int .i64 p.parent, .int .i64 p.user, .int .i64 p.session, .int .i64 p.status, .bool true, .bool p.reserve] := by unfold prC; rw [hd]
            have hat := at_of_mem HSD.out.asc hmem
            obtain ⟨r1, r2⟩ := HSD.out.rng p hmem
            have hFa : Fr (fun _ => False) W (wr.alloc (.cells (prC p).toArray 32)).drew := (HFA.out.alloc _).drew
            have hPa := HP.out.fr hFa fun _ _ => id
            obtain ⟨W3, hdel, hm3, ht3⟩ := hPa.map.del HSD.out.asc (x := p.pid) ⟨by omega, by omega⟩ hat 0
            have HP3 := Lib.hid (hPa.del ht3 hm3)
            have fr3 := Fr.grown ht3.grown
            have hMlt := HP.out.ltM
            have hsz : W.heap.size ≤ wr.heap.size := HFA.out.size
            have q0 : W3.cell? ⟨wr.heap.size, 0, none⟩ = some (.int .i64 p.pid) := fr3.cell (lay_pr wr _ p 0 _ rfl) (fun e => by cases e; omega)
            have q4 : W3.cell? ⟨wr.heap.size, 4, none⟩ = some (.int .i64 p.status) := fr3.cell (lay_pr wr _ p 4 _ rfl) (fun e => by cases e; omega)
            have n0 : (wr.alloc (.cells (prC p).toArray 32)).drew.cell? ⟨wr.heap.size, 0, none⟩ = some (.int .i64 p.pid) := lay_pr wr _ p 0 _ rfl
            obtain ⟨m0, -, -⟩ := hPa.cell
            have hF3 : Fr (Bp T M nb v s.L) W W3 := (hFa.mono fun _ _ h => h.elim).trans (fr3.mono fun k _ hk => .inr (.inl (by cases hk; rfl)))
            have HF3 := Lib.hid hF3
            rw [hpc] at n0 m0 hdel
            clear hPa hm3 ht3 fr3 hF3 hFa hat hg1 hkd hp hmem hd HNO HAN hpc HW1 HW2 HFA2
            go_wp2_with fail
            go_region
            all_goals
              go_wp2_with fail
              go_quiet (fail)
              go_wp2
              go_ret3
              rw [HFI.out.1, HFI.out.2]
              refine ⟨rfl, _, ⟨M, nb, v, HP3.out.fr (S := fun _ => False) ((Fr.refl _ _).drewN _) fun _ _ => id, rfl⟩, ?_⟩
              rw [hS]
              exact ⟨HF3.out.drewN _, fun k hk => .inl hk.drop⟩
        · have t1' : (p.parent != a) = false := by rw [bne, t1]; rfl
          have t3' : (p.pid != c) = true := by rw [bne, t3]; rfl
          have hg0 : gone a c p = false := by unfold gone; rw [hkd]; rfl
          have HT2 := Lib.hid (take_more HNO.out hp hg0)
          have HKD := Lib.hid hkd
          clear hp hkd hg0 hmem
          go_wp2
          go_roundw
          case rel => exact ⟨k + 1, by go_num, by omega, by rw [← HEV.out, HAN.out, HKD.out, Bool.or_false], HT2.out, HFA2.out⟩
          case measure => simp [Lib.intOf]; omega
        · have t1' : (p.parent != a) = false := by rw [bne, t1]; rfl
          have t3' : (p.pid != c) = false := by rw [bne, t3]; rfl
          cases hd : p.dead
          · rw [hd] at e5
            have hpc : (prC p).toArray = #[.int .i64 p.pid, .int .i64 p.parent, .int .i64 p.user, .int .i64 p.session, .int .i64 p.status, .bool false, .bool p.reserve] := by unfold prC; rw [hd]
            rw [hpc] at HFA2
            have hg0 : gone a c p = false := by unfold gone; rw [hd, Bool.and_false]
            have HT2 := Lib.hid (take_more HNO.out hp hg0)
            have HKD := Lib.hid hkd
            clear hp hkd hg0 hmem hd
            go_wp2
            go_roundw
            case rel => exact ⟨k + 1, by go_num, by omega, by rw [HAN.out, HKD.out, Bool.or_true]; rfl, HT2.out, HFA2.out⟩
            case measure => simp [Lib.intOf]; omega
          · rw [hd] at e5
            have hg1 : gone a c p = true := by unfold gone; rw [hkd, hd]; rfl
            have HFI := Lib.hid (HW1.out p (find_at HNO.out hp hg1))
            have hpc : (prC p).toArray = #[.int .i64 p.pid, .int .i64 p.parent, .int .i64 p.user, .int .i64 p.session, .int .i64 p.status, .bool true, .bool p.reserve] := by unfold prC; rw [hd]
            have hat := at_of_mem HSD.out.asc hmem
            obtain ⟨r1, r2⟩ := HSD.out.rng p hmem
            have hFa : Fr (fun _ => False) W (wr.alloc (.cells (prC p).toArray 32)).drew := (HFA.out.alloc _).drew
            have hPa := HP.out.fr hFa fun _ _ => id
            obtain ⟨W3, hdel, hm3, ht3⟩ := hPa.map.del HSD.out.asc (x := p.pid) ⟨by omega, by omega⟩ hat 0
            have HP3 := Lib.hid (hPa.del ht3 hm3)
            have fr3 := Fr.grown ht3.grown
            have hMlt := HP.out.ltM
            have hsz : W.heap.size ≤ wr.heap.size := HFA.out.size
            have q0 : W3.cell? ⟨wr.heap.size, 0, none⟩ = some (.int .i64 p.pid) := fr3.cell (lay_pr wr _ p 0 _ rfl) (fun e => by cases e; omega)
            have q4 : W3.cell? ⟨wr.heap.size, 4, none⟩ = some (.int .i64 p.status) := fr3.cell (lay_pr wr _ p 4 _ rfl) (fun e => by cases e; omega)
            have n0 : (wr.alloc (.cells (prC p).toArray 32)).drew.cell? ⟨wr.heap.size, 0, none⟩ = some (.int .i64 p.pid) := lay_pr wr _ p 0 _ rfl
            obtain ⟨m0, -, -⟩ := hPa.cell
            have hF3 : Fr (Bp T M nb v s.L) W W3 := (hFa.mono fun _ _ h => h.elim).trans (fr3.mono fun k _ hk => .inr (.inl (by cases hk; rfl)))
            have HF3 := Lib.hid hF3
            rw [hpc] at n0 m0 hdel
            clear hPa hm3 ht3 fr3 hF3 hFa hat hg1 hkd hp hmem hd HNO HAN hpc HW1 HW2 HFA2
            go_wp2_with fail
            go_region
            all_goals
              go_wp2_with fail
              go_quiet (fail)
              go_wp2
              go_ret3
              rw [HFI.out.1, HFI.out.2]
              refine ⟨rfl, _, ⟨M, nb, v, HP3.out.fr (S := fun _ => False) ((Fr.refl _ _).drewN _) fun _ _ => id, rfl⟩, ?_⟩
              rw [hS]
              exact ⟨HF3.out.drewN _, fun k hk => .inl hk.drop⟩
      · have hkl : k = s.L.length := by omega
        have hn := HNO.out
        rw [hkl, List.take_length] at hn
        have HFI := Lib.hid (HW2.out (List.find?_eq_none.2 fun q hq => by rw [hn q hq]; decide))
        have i2 : ¬ ((k : Int) < (s.L.length : Int)) := by omega
        have HKL := Lib.hid hkl
        clear hn hkl
        have hev := HEV.out
        rw [HKL.out, List.take_length] at hev
        have HEW := Lib.hid hev
        clear hev
        go_wp2
        go_ret3
        rw [HFI.out.1, HFI.out.2, HEW.out]
        exact ⟨rfl, hS ▸ HT.out.does_fr HFA.out⟩
end Go.Proofs.Ytgbmedbkonloiaa
