/- The document's Fork. -/
import Derived.Test.YtgbmedbkonloiaaFO
import Derived.Test.YtgbmedbkonloiaaFQ
namespace Go.Proofs.Ytgbmedbkonloiaa
open Go.RowKit
set_option linter.unusedVariables false
set_option linter.unusedSimpArgs false
theorem info_rproc : ∃ i, Try.prog.info? 35 = some i ∧ i.zero = some (.agg #[.int .i64 0, .int .i64 0, .int .i64 0, .int .i64 0, .int .i64 0, .bool false, .bool false]) ∧ i.size = 7 ∧ i.bytes = 48 := by
  obtain ⟨i, hi⟩ : ∃ i, Try.prog.info? 35 = some i := by
    cases h : Try.prog.info? 35 with
    | none => have : (Try.prog.info? 35).isSome = true := by kernel_rfl
              rw [h] at this; cases this
    | some i => exact ⟨i, rfl⟩
  have h2 : (Try.prog.info? 35).map (fun i => (i.zero, i.size, i.bytes)) = some (some (.agg #[.int .i64 0, .int .i64 0, .int .i64 0, .int .i64 0, .int .i64 0, .bool false, .bool false]), 7, 48) := by kernel_rfl
  rw [hi] at h2
  simp only [Option.map_some, Option.some.injEq, Prod.mk.injEq] at h2
  exact ⟨i, hi, h2.1, h2.2.1, h2.2.2⟩
def forkA (D g n cap : Nat) (last : Int) (w : World) : Prop := w.cell? ⟨D, 0, none⟩ = some (.slice (some ⟨g, 0, none⟩) n cap) ∧ w.cell? ⟨D, 1, none⟩ = some (.int .i64 last)
def forkG (g k : Nat) (se : Int) (w : World) : Prop := w.cell? ⟨g, k * 7 + 3, none⟩ = some (.int .i64 se)
/-- what the last region of Fork keeps behind its operations. -/
def forkO (D g n cap k : Nat) (last se : Int) (i : Nat) (w : World) : Prop := (i ≠ 25 → forkA D g n cap last w) ∧ (i ∉ [0, 22, 23, 24, 25] → forkG g k se w)
def forkF (D g n cap k : Nat) (last se : Int) (w : World) : Prop := forkA D g n cap last w ∧ forkG g k se w
theorem forkO_t {D g n cap k : Nat} {last se : Int} {w : World} : forkO D g n cap k last se 25 w := ⟨fun h2 => absurd rfl h2, fun h2 => absurd (by decide) h2⟩
theorem forkO_of {D g n cap k : Nat} {last se : Int} (i : Nat) {w : World} (h : forkF D g n cap k last se w) : forkO D g n cap k last se i w := ⟨fun _ => h.1, fun _ => h.2⟩
theorem forkO_F {D g n cap k : Nat} {last se : Int} {i : Nat} {w : World} {cs : List Nat} (h : forkO D g n cap k last se i w) (h1 : i ∉ cs) (h2 : i ≠ 0) (c1 : 22 ∈ cs) (c2 : 23 ∈ cs) (c3 : 24 ∈ cs) (c4 : 25 ∈ cs) : forkF D g n cap k last se w := by
  have e1 : i ≠ 22 := fun e => h1 (e ▸ c1)
  have e2 : i ≠ 23 := fun e => h1 (e ▸ c2)
  have e3 : i ≠ 24 := fun e => h1 (e ▸ c3)
  have e4 : i ≠ 25 := fun e => h1 (e ▸ c4)
  exact ⟨h.1 e4, h.2 (by simp; omega)⟩
section
variable {W W' : World} {B D : Nat} {v u : Value} {L : List Pr} {last : Int} {us : List Int} {R : Nat → Prop} {s : TB}
theorem row_more {B : Nat} (L : List Pr) (p : Pr) {v' : Value} (h : W.ownsRow B 35 7 v' (L.length + 1) (rowsC L ++ prC p)) : W.ownsRow B 35 7 v' (L ++ [p]).length (rowsC (L ++ [p])) := by
  rw [rowsC_app, List.length_append]
  simpa [rowsC] using h
theorem fork_of {s : TB} {a : Int} {r : Bool} {p : Pr} (hl : liveP s.L a = some p) (he : forkE s a r = 0) : forkT s a r = ⟨s.L ++ [kidOf s a r p], s.last + 1, if r = true then s.users else learnU s.users p.user⟩ := by
  unfold forkT; rw [hl]; simp only; rw [if_pos he]
theorem fork_not {s : TB} {a : Int} {r : Bool} (he : forkE s a r ≠ 0) : forkT s a r = s ∧ forkN s a r = 0 := by
  refine ⟨?_, if_neg he⟩
  unfold forkT
  cases liveP s.L a with
  | none => rfl
  | some p => exact if_neg he
/-- what stands in a table when a process is to be laid into it: the last part of Fork. -/
theorem fin_fork {g cap : Nat} {w1 w4 : World} {o : Obj} (k2 : Fr R (w1.drew.alloc o) w4) {R' : Nat → Prop} (k3 : ∀ k, R' k → R k ∨ (w1.drew.alloc o).heap.size ≤ k) : Step R R' w1 w4 := fin_new k2 k3
set_option maxRecDepth 100000 in
set_option maxHeartbeats 4000000 in
theorem rfork_any (a : Int) (r : Bool) (h : DAt W B D R s) (hs : Sd s) (hb : s.last ≤ 1000000) :
    Calls Try.prog 23 #[.pointer (some ⟨D, 0, none⟩), .int .i64 a, .bool r] W fun e w' => e = .returned (.tuple #[.int .i64 (forkN s a r), .int .i64 (forkE s a r)]) ∧ DDoes W B D R (forkT s a r) w' := by
  have hl : s.L.length ≤ 1000000 := by have := hs.len; omega
  have HT := Lib.hid h
  obtain ⟨v, u, h1, hR⟩ := h
  have hA := Lib.hid (rlive_any a h1 hl)
  cases hlv : liveP s.L a with
  | none =>
    have he : forkE s a r = 3 := by unfold forkE; rw [hlv]
    obtain ⟨k1, k2⟩ := fork_not (show forkE s a r ≠ 0 by rw [he]; decide)
    rw [he, k1, k2]
    rw [lpos_none hlv] at hA
    clear h1 hlv he k1 k2 hs
    go_enter Try.func23, Try.ntmps23
    go_wp2_with (go_at_call 35; refine hA.out.mono ?_; rintro e w' ⟨rfl, rfl⟩)
    go_ret2
    exact ⟨rfl, HT.out.does⟩
  | some p =>
    obtain ⟨k, hk1, hk, hx, hlt⟩ := pos_live hlv
    rw [hk1] at hA
    have i1 : (0 : Int) ≤ (k : Int) := by omega
    have i2 : (k : Int) < (s.L.length : Int) := by omega
    have i3 : ¬ (k : Int) < 0 := by omega
    obtain ⟨g, cap, rfl, hg, hc⟩ := h1.form (by omega)
    obtain ⟨c0, c1, -⟩ := h1.cell
    obtain ⟨-, -, e2, e3, -⟩ := h1.cellP hk
    have hlen := hs.len
    have hpos := hs.pos
    cases r
    · have HM := Lib.hid (rroom_any p.user h1 hs.u8 hl)
      have hfe : forkE s a false = roomP s p.user := by unfold forkE; rw [hlv]; rfl
      by_cases he : roomP s p.user = 0
      · have hN : forkN s a false = s.last + 1 := by unfold forkN; rw [hfe, he]; rfl
        have hT := fork_of hlv (by rw [hfe, he])
        rw [if_neg (by decide)] at hT
        rw [hfe, he, hN]
        rw [he] at HM
        have HLE := Lib.hid (rlearn_any p.user h1 hs.u8)
        have HTT := Lib.hid hT
        have HKK := Lib.hid hk
        obtain ⟨i0, hi, hz0, hz1, hz2⟩ := info_rproc
        have hBW : B ≤ W.heap.size := Nat.le_trans h1.base (Nat.le_of_lt (heap_lt h1.hb))
        clear h1 hlv hs hk hk1 hfe hN hT he
        go_enter Try.func23, Try.ntmps23
        go_wp2_with (first
          | (go_at_call 35; refine hA.out.mono ?_; rintro e w' ⟨rfl, rfl⟩)
          | (go_at_call 36; refine HM.out.mono ?_; rintro e w1 ⟨rfl, rfl⟩)
          | (go_at_call 37; refine HLE.out.mono ?_; rintro e w1 ⟨rfl, u', hP, hS⟩
             have HS := Lib.hid hS
             have HP := Lib.hid hP
             obtain ⟨d0, d1, -⟩ := hP.cell
             have f1 := hP.frozen 1
             clear hP hS))
        have HP2 := Lib.hid (HP.out.sLast (s.last + 1))
        have HSt := Lib.hid (show Step R (Bd D (.slice (some ⟨g, 0, none⟩) s.L.length cap) u') W (w1.setCell ⟨D, 1, none⟩ (.int .i64 (s.last + 1))) from by
          rw [hR]
          exact HS.out.trans ⟨(Fr.one _ _ _ _).mono fun k _ hk => .inl hk, fun k hk => .inl hk⟩)
        have hBW2 : B ≤ (w1.setCell ⟨D, 1, none⟩ (.int .i64 (s.last + 1))).heap.size := by
          have := Nat.le_trans HP.out.base (Nat.le_of_lt (heap_lt HP.out.hb))
          simpa [World.setCell] using this
        go_wp2_with fail
        clear HP c0 c1 e2 e3
        generalize hw2 : w1.setCell ⟨D, 1, none⟩ (.int .i64 (s.last + 1)) = w2 at *
        clear hw2
        have hDd := HP2.out.fr (S := fun _ => False) ((Fr.refl _ w2).drew) (fun _ _ => id)
        obtain ⟨d0, d1, -⟩ := hDd.cell
        have f0 := hDd.frozen 0
        obtain ⟨-, -, -, e3, -⟩ := hDd.cellP HKK.out
        have HA := Lib.hid (hDd.fr (S := fun _ => False) ((Fr.refl _ w2.drew).alloc (.cells (prC (kidOf s a false p)).toArray 35)) (fun _ _ => id))
        have hDlt : D < w2.heap.size := heap_lt HP2.out.hb
        obtain ⟨b0, b1, -⟩ := HP2.out.cell
        have b2 := HP2.out.frozen 0
        obtain ⟨-, -, -, b3, -⟩ := HP2.out.cellP HKK.out
        have hglt : g < w2.heap.size := cell_lt b3
        clear hDd
        have HFF := Lib.hid (show forkF D g s.L.length cap k (s.last + 1) p.session w2.drew from ⟨⟨d0, d1⟩, e3⟩)
        have HFA := Lib.hid (show forkF D g s.L.length cap k (s.last + 1) p.session (w2.drew.alloc (.cells (prC (kidOf s a false p)).toArray 35)) from ⟨⟨HA.out.cell.1, HA.out.cell.2.1⟩, (HA.out.cellP HKK.out).2.2.2.1⟩)
        refine regionU (forkO D g s.L.length cap k (s.last + 1) p.session) (by kernel_rfl) ?_
        refine takeU (forkA D g s.L.length cap (s.last + 1)) (oi := ?oi1) (v := ?v1) 0 [23, 24, 25] [] (fun j h1 _ w h => h.1 fun e => h1 (by rw [e]; decide)) (fun _ h => ⟨fun _ => h, fun h2 => absurd (by decide) h2⟩) ?hi1 (by kernel_rfl) ?hQ1 ?hy1 HFF.out.1 ?h1
        case hi1 => simp only [List.getElem?_toArray, List.getElem?_cons_succ, List.getElem?_cons_zero]; exact rfl
        case hQ1 => exact fun _ _ _ h => h
        case hy1 => (refine Or.inl ⟨by rfl, ?_⟩; intro w' hSw; (try dsimp only at hSw); (try obtain ⟨⟨hS1, hS2⟩, hS3⟩ := hSw); (try dsimp only [forkG] at hS3); go_simp; (try with_reducible rfl))
        simp only [Act.put, List.setIfInBounds_toArray, List.set_cons_zero, List.set_cons_succ]
        refine takeU (forkF D g s.L.length cap k (s.last + 1) p.session) (oi := ?oi2) (v := ?v2) 1 [2, 3, 4, 22, 23, 24, 25] [0] (fun j h1 h2 w h => forkO_F h h1 (by simpa using h2) (by decide) (by decide) (by decide) (by decide)) (fun _ h => forkO_of _ h) ?hi2 (by kernel_rfl) ?hQ2 ?hy2 HFF.out ?h2
        case hi2 => simp only [List.getElem?_toArray, List.getElem?_cons_succ, List.getElem?_cons_zero]; exact rfl
        case hQ2 => exact fun _ _ _ h => h
        case hy2 => (refine Or.inl ⟨by rfl, ?_⟩; intro w' hSw; (try dsimp only at hSw); (try obtain ⟨⟨hS1, hS2⟩, hS3⟩ := hSw); (try dsimp only [forkG] at hS3); go_simp; (try with_reducible rfl))
        simp only [Act.put, List.setIfInBounds_toArray, List.set_cons_zero, List.set_cons_succ]
        refine takeU (forkF D g s.L.length cap k (s.last + 1) p.session) (oi := ?oi3) (v := ?v3) 2 [3, 4, 22, 23, 24, 25] [0] (fun j h1 h2 w h => forkO_F h h1 (by simpa using h2) (by decide) (by decide) (by decide) (by decide)) (fun _ h => forkO_of _ h) ?hi3 (by kernel_rfl) ?hQ3 ?hy3 HFF.out ?h3
        case hi3 => simp only [List.getElem?_toArray, List.getElem?_cons_succ, List.getElem?_cons_zero]; exact rfl
        case hQ3 => exact fun _ _ _ h => h
        case hy3 => (refine Or.inl ⟨by rfl, ?_⟩; intro w' hSw; (try dsimp only at hSw); (try obtain ⟨⟨hS1, hS2⟩, hS3⟩ := hSw); (try dsimp only [forkG] at hS3); go_simp; (try with_reducible rfl))
        simp only [Act.put, List.setIfInBounds_toArray, List.set_cons_zero, List.set_cons_succ]
        refine takeU (forkF D g s.L.length cap k (s.last + 1) p.session) (oi := ?oi4) (v := ?v4) 3 [4, 22, 23, 24, 25] [0] (fun j h1 h2 w h => forkO_F h h1 (by simpa using h2) (by decide) (by decide) (by decide) (by decide)) (fun _ h => forkO_of _ h) ?hi4 (by kernel_rfl) ?hQ4 ?hy4 HFF.out ?h4
        case hi4 => simp only [List.getElem?_toArray, List.getElem?_cons_succ, List.getElem?_cons_zero]; exact rfl
        case hQ4 => exact fun _ _ _ h => h
        case hy4 => (refine Or.inl ⟨by rfl, ?_⟩; intro w' hSw; (try dsimp only at hSw); (try obtain ⟨⟨hS1, hS2⟩, hS3⟩ := hSw); (try dsimp only [forkG] at hS3); go_simp; (try with_reducible rfl))
        simp only [Act.put, List.setIfInBounds_toArray, List.set_cons_zero, List.set_cons_succ]
        refine takeU (forkF D g s.L.length cap k (s.last + 1) p.session) (oi := ?oi5) (v := ?v5) 4 [22, 23, 24, 25] [0] (fun j h1 h2 w h => forkO_F h h1 (by simpa using h2) (by decide) (by decide) (by decide) (by decide)) (fun _ h => forkO_of _ h) ?hi5 (by kernel_rfl) ?hQ5 ?hy5 HFF.out ?h5
        case hi5 => simp only [List.getElem?_toArray, List.getElem?_cons_succ, List.getElem?_cons_zero]; exact rfl
        case hQ5 => exact fun _ _ _ h => h
        case hy5 => (refine Or.inl ⟨by rfl, ?_⟩; intro w' hSw; (try dsimp only at hSw); (try obtain ⟨⟨hS1, hS2⟩, hS3⟩ := hSw); (try dsimp only [forkG] at hS3); go_simp; (try with_reducible rfl))
        simp only [Act.put, List.setIfInBounds_toArray, List.set_cons_zero, List.set_cons_succ]
        refine takeU (forkF D g s.L.length cap k (s.last + 1) p.session) (oi := ?oi6) (v := ?v6) 5 [6, 7, 8, 20, 21, 22, 23, 24, 25] [0] (fun j h1 h2 w h => forkO_F h h1 (by simpa using h2) (by decide) (by decide) (by decide) (by decide)) (fun _ h => forkO_of _ h) ?hi6 (by kernel_rfl) ?hQ6 ?hy6 HFF.out ?h6
        case hi6 => simp only [List.getElem?_toArray, List.getElem?_cons_succ, List.getElem?_cons_zero]; exact rfl
        case hQ6 => exact fun _ _ _ h => h
        case hy6 => (refine Or.inl ⟨by rfl, ?_⟩; intro w' hSw; (try dsimp only at hSw); (try obtain ⟨⟨hS1, hS2⟩, hS3⟩ := hSw); (try dsimp only [forkG] at hS3); go_simp; (try with_reducible rfl))
        simp only [Act.put, List.setIfInBounds_toArray, List.set_cons_zero, List.set_cons_succ]
        refine takeU (forkF D g s.L.length cap k (s.last + 1) p.session) (oi := ?oi7) (v := ?v7) 6 [7, 8, 20, 21, 22, 23, 24, 25] [0] (fun j h1 h2 w h => forkO_F h h1 (by simpa using h2) (by decide) (by decide) (by decide) (by decide)) (fun _ h => forkO_of _ h) ?hi7 (by kernel_rfl) ?hQ7 ?hy7 HFF.out ?h7
        case hi7 => simp only [List.getElem?_toArray, List.getElem?_cons_succ, List.getElem?_cons_zero]; exact rfl
        case hQ7 => exact fun _ _ _ h => h
        case hy7 => (refine Or.inl ⟨by rfl, ?_⟩; intro w' hSw; (try dsimp only at hSw); (try obtain ⟨⟨hS1, hS2⟩, hS3⟩ := hSw); (try dsimp only [forkG] at hS3); go_simp; (try with_reducible rfl))
        simp only [Act.put, List.setIfInBounds_toArray, List.set_cons_zero, List.set_cons_succ]
        refine takeU (forkF D g s.L.length cap k (s.last + 1) p.session) (oi := ?oi8) (v := ?v8) 7 [8, 20, 21, 22, 23, 24, 25] [0] (fun j h1 h2 w h => forkO_F h h1 (by simpa using h2) (by decide) (by decide) (by decide) (by decide)) (fun _ h => forkO_of _ h) ?hi8 (by kernel_rfl) ?hQ8 ?hy8 HFF.out ?h8
        case hi8 => simp only [List.getElem?_toArray, List.getElem?_cons_succ, List.getElem?_cons_zero]; exact rfl
        case hQ8 => exact fun _ _ _ h => h
        case hy8 => (refine Or.inl ⟨by rfl, ?_⟩; intro w' hSw; (try dsimp only at hSw); (try obtain ⟨⟨hS1, hS2⟩, hS3⟩ := hSw); (try dsimp only [forkG] at hS3); go_simp; (try with_reducible rfl))
        simp only [Act.put, List.setIfInBounds_toArray, List.set_cons_zero, List.set_cons_succ]
        refine takeU (forkF D g s.L.length cap k (s.last + 1) p.session) (oi := ?oi9) (v := ?v9) 8 [20, 21, 22, 23, 24, 25] [0] (fun j h1 h2 w h => forkO_F h h1 (by simpa using h2) (by decide) (by decide) (by decide) (by decide)) (fun _ h => forkO_of _ h) ?hi9 (by kernel_rfl) ?hQ9 ?hy9 HFF.out ?h9
        case hi9 => simp only [List.getElem?_toArray, List.getElem?_cons_succ, List.getElem?_cons_zero]; exact rfl
        case hQ9 => exact fun _ _ _ h => h
        case hy9 => (refine Or.inl ⟨by rfl, ?_⟩; intro w' hSw; (try dsimp only at hSw); (try obtain ⟨⟨hS1, hS2⟩, hS3⟩ := hSw); (try dsimp only [forkG] at hS3); go_simp; (try with_reducible rfl))
        simp only [Act.put, List.setIfInBounds_toArray, List.set_cons_zero, List.set_cons_succ]
        refine takeU (forkF D g s.L.length cap k (s.last + 1) p.session) (oi := ?oi10) (v := ?v10) 9 [20, 21, 22, 23, 24, 25] [0] (fun j h1 h2 w h => forkO_F h h1 (by simpa using h2) (by decide) (by decide) (by decide) (by decide)) (fun _ h => forkO_of _ h) ?hi10 (by kernel_rfl) ?hQ10 ?hy10 HFF.out ?h10
        case hi10 => simp only [List.getElem?_toArray, List.getElem?_cons_succ, List.getElem?_cons_zero]; exact rfl
        case hQ10 => exact fun _ _ _ h => h
        case hy10 => (refine Or.inl ⟨by rfl, ?_⟩; intro w' hSw; (try dsimp only at hSw); (try obtain ⟨⟨hS1, hS2⟩, hS3⟩ := hSw); (try dsimp only [forkG] at hS3); go_simp; (try with_reducible rfl))
        simp only [Act.put, List.setIfInBounds_toArray, List.set_cons_zero, List.set_cons_succ]
        refine takeU (forkF D g s.L.length cap k (s.last + 1) p.session) (oi := ?oi11) (v := ?v11) 10 [20, 21, 22, 23, 24, 25] [0] (fun j h1 h2 w h => forkO_F h h1 (by simpa using h2) (by decide) (by decide) (by decide) (by decide)) (fun _ h => forkO_of _ h) ?hi11 (by kernel_rfl) ?hQ11 ?hy11 HFF.out ?h11
        case hi11 => simp only [List.getElem?_toArray, List.getElem?_cons_succ, List.getElem?_cons_zero]; exact rfl
        case hQ11 => exact fun _ _ _ h => h
        case hy11 => (refine Or.inl ⟨by rfl, ?_⟩; intro w' hSw; (try dsimp only at hSw); (try obtain ⟨⟨hS1, hS2⟩, hS3⟩ := hSw); (try dsimp only [forkG] at hS3); go_simp; (try with_reducible rfl))
        simp only [Act.put, List.setIfInBounds_toArray, List.set_cons_zero, List.set_cons_succ]
        refine takeU (forkF D g s.L.length cap k (s.last + 1) p.session) (oi := ?oi12) (v := ?v12) 11 [12, 13, 14, 16, 17, 18, 20, 21, 22, 23, 24, 25] [0] (fun j h1 h2 w h => forkO_F h h1 (by simpa using h2) (by decide) (by decide) (by decide) (by decide)) (fun _ h => forkO_of _ h) ?hi12 (by kernel_rfl) ?hQ12 ?hy12 HFF.out ?h12
        case hi12 => simp only [List.getElem?_toArray, List.getElem?_cons_succ, List.getElem?_cons_zero]; exact rfl
        case hQ12 => exact fun _ _ _ h => h
        case hy12 => (refine Or.inl ⟨by rfl, ?_⟩; intro w' hSw; (try dsimp only at hSw); (try obtain ⟨⟨hS1, hS2⟩, hS3⟩ := hSw); (try dsimp only [forkG] at hS3); go_simp; (try with_reducible rfl))
        simp only [Act.put, List.setIfInBounds_toArray, List.set_cons_zero, List.set_cons_succ]
        refine takeU (forkF D g s.L.length cap k (s.last + 1) p.session) (oi := ?oi13) (v := ?v13) 12 [13, 14, 16, 17, 18, 20, 21, 22, 23, 24, 25] [0] (fun j h1 h2 w h => forkO_F h h1 (by simpa using h2) (by decide) (by decide) (by decide) (by decide)) (fun _ h => forkO_of _ h) ?hi13 (by kernel_rfl) ?hQ13 ?hy13 HFF.out ?h13
        case hi13 => simp only [List.getElem?_toArray, List.getElem?_cons_succ, List.getElem?_cons_zero]; exact rfl
        case hQ13 => exact fun _ _ _ h => h
        case hy13 => (refine Or.inl ⟨by rfl, ?_⟩; intro w' hSw; (try dsimp only at hSw); (try obtain ⟨⟨hS1, hS2⟩, hS3⟩ := hSw); (try dsimp only [forkG] at hS3); go_simp; (try with_reducible rfl))
        simp only [Act.put, List.setIfInBounds_toArray, List.set_cons_zero, List.set_cons_succ]
        refine takeU (forkF D g s.L.length cap k (s.last + 1) p.session) (oi := ?oi14) (v := ?v14) 13 [14, 16, 17, 18, 20, 21, 22, 23, 24, 25] [0] (fun j h1 h2 w h => forkO_F h h1 (by simpa using h2) (by decide) (by decide) (by decide) (by decide)) (fun _ h => forkO_of _ h) ?hi14 (by kernel_rfl) ?hQ14 ?hy14 HFF.out ?h14
        case hi14 => simp only [List.getElem?_toArray, List.getElem?_cons_succ, List.getElem?_cons_zero]; exact rfl
        case hQ14 => exact fun _ _ _ h => h
        case hy14 => (refine Or.inl ⟨by rfl, ?_⟩; intro w' hSw; (try dsimp only at hSw); (try obtain ⟨⟨hS1, hS2⟩, hS3⟩ := hSw); (try dsimp only [forkG] at hS3); go_simp; (try with_reducible rfl))
        simp only [Act.put, List.setIfInBounds_toArray, List.set_cons_zero, List.set_cons_succ]
        refine takeU (forkF D g s.L.length cap k (s.last + 1) p.session) (oi := ?oi15) (v := ?v15) 14 [16, 17, 18, 20, 21, 22, 23, 24, 25] [0] (fun j h1 h2 w h => forkO_F h h1 (by simpa using h2) (by decide) (by decide) (by decide) (by decide)) (fun _ h => forkO_of _ h) ?hi15 (by kernel_rfl) ?hQ15 ?hy15 HFF.out ?h15
        case hi15 => simp only [List.getElem?_toArray, List.getElem?_cons_succ, List.getElem?_cons_zero]; exact rfl
        case hQ15 => exact fun _ _ _ h => h
        case hy15 => (refine Or.inl ⟨by rfl, ?_⟩; intro w' hSw; (try dsimp only at hSw); (try obtain ⟨⟨hS1, hS2⟩, hS3⟩ := hSw); (try dsimp only [forkG] at hS3); go_simp; (try with_reducible rfl))
        simp only [Act.put, List.setIfInBounds_toArray, List.set_cons_zero, List.set_cons_succ]
        refine takeU (forkF D g s.L.length cap k (s.last + 1) p.session) (oi := ?oi16) (v := ?v16) 15 [16, 17, 18, 20, 21, 22, 23, 24, 25] [0] (fun j h1 h2 w h => forkO_F h h1 (by simpa using h2) (by decide) (by decide) (by decide) (by decide)) (fun _ h => forkO_of _ h) ?hi16 (by kernel_rfl) ?hQ16 ?hy16 HFF.out ?h16
        case hi16 => simp only [List.getElem?_toArray, List.getElem?_cons_succ, List.getElem?_cons_zero]; exact rfl
        case hQ16 => exact fun _ _ _ h => h
        case hy16 => (refine Or.inl ⟨by rfl, ?_⟩; intro w' hSw; (try dsimp only at hSw); (try obtain ⟨⟨hS1, hS2⟩, hS3⟩ := hSw); (try dsimp only [forkG] at hS3); go_simp; (try with_reducible rfl))
        simp only [Act.put, List.setIfInBounds_toArray, List.set_cons_zero, List.set_cons_succ]
        refine takeU (forkF D g s.L.length cap k (s.last + 1) p.session) (oi := ?oi17) (v := ?v17) 16 [17, 18, 20, 21, 22, 23, 24, 25] [0] (fun j h1 h2 w h => forkO_F h h1 (by simpa using h2) (by decide) (by decide) (by decide) (by decide)) (fun _ h => forkO_of _ h) ?hi17 (by kernel_rfl) ?hQ17 ?hy17 HFF.out ?h17
        case hi17 => simp only [List.getElem?_toArray, List.getElem?_cons_succ, List.getElem?_cons_zero]; exact rfl
        case hQ17 => exact fun _ _ _ h => h
        case hy17 => (refine Or.inl ⟨by rfl, ?_⟩; intro w' hSw; (try dsimp only at hSw); (try obtain ⟨⟨hS1, hS2⟩, hS3⟩ := hSw); (try dsimp only [forkG] at hS3); go_simp; (try with_reducible rfl))
        simp only [Act.put, List.setIfInBounds_toArray, List.set_cons_zero, List.set_cons_succ]
        refine takeU (forkF D g s.L.length cap k (s.last + 1) p.session) (oi := ?oi18) (v := ?v18) 17 [18, 20, 21, 22, 23, 24, 25] [0] (fun j h1 h2 w h => forkO_F h h1 (by simpa using h2) (by decide) (by decide) (by decide) (by decide)) (fun _ h => forkO_of _ h) ?hi18 (by kernel_rfl) ?hQ18 ?hy18 HFF.out ?h18
        case hi18 => simp only [List.getElem?_toArray, List.getElem?_cons_succ, List.getElem?_cons_zero]; exact rfl
        case hQ18 => exact fun _ _ _ h => h
        case hy18 => (refine Or.inl ⟨by rfl, ?_⟩; intro w' hSw; (try dsimp only at hSw); (try obtain ⟨⟨hS1, hS2⟩, hS3⟩ := hSw); (try dsimp only [forkG] at hS3); go_simp; (try with_reducible rfl))
        simp only [Act.put, List.setIfInBounds_toArray, List.set_cons_zero, List.set_cons_succ]
        refine takeU (forkF D g s.L.length cap k (s.last + 1) p.session) (oi := ?oi19) (v := ?v19) 18 [20, 21, 22, 23, 24, 25] [0] (fun j h1 h2 w h => forkO_F h h1 (by simpa using h2) (by decide) (by decide) (by decide) (by decide)) (fun _ h => forkO_of _ h) ?hi19 (by kernel_rfl) ?hQ19 ?hy19 HFF.out ?h19
        case hi19 => simp only [List.getElem?_toArray, List.getElem?_cons_succ, List.getElem?_cons_zero]; exact rfl
        case hQ19 => exact fun _ _ _ h => h
        case hy19 => (refine Or.inl ⟨by rfl, ?_⟩; intro w' hSw; (try dsimp only at hSw); (try obtain ⟨⟨hS1, hS2⟩, hS3⟩ := hSw); (try dsimp only [forkG] at hS3); go_simp; (try with_reducible rfl))
        simp only [Act.put, List.setIfInBounds_toArray, List.set_cons_zero, List.set_cons_succ]
        refine takeU (forkF D g s.L.length cap k (s.last + 1) p.session) (oi := ?oi20) (v := ?v20) 19 [20, 21, 22, 23, 24, 25] [0] (fun j h1 h2 w h => forkO_F h h1 (by simpa using h2) (by decide) (by decide) (by decide) (by decide)) (fun _ h => forkO_of _ h) ?hi20 (by kernel_rfl) ?hQ20 ?hy20 HFF.out ?h20
        case hi20 => simp only [List.getElem?_toArray, List.getElem?_cons_succ, List.getElem?_cons_zero]; exact rfl
        case hQ20 => exact fun _ _ _ h => h
        case hy20 => (refine Or.inl ⟨by rfl, ?_⟩; intro w' hSw; (try dsimp only at hSw); (try obtain ⟨⟨hS1, hS2⟩, hS3⟩ := hSw); (try dsimp only [forkG] at hS3); go_simp; (try with_reducible rfl))
        simp only [Act.put, List.setIfInBounds_toArray, List.set_cons_zero, List.set_cons_succ]
        refine takeU (forkF D g s.L.length cap k (s.last + 1) p.session) (oi := ?oi21) (v := ?v21) 20 [21, 22, 23, 24, 25] [0] (fun j h1 h2 w h => forkO_F h h1 (by simpa using h2) (by decide) (by decide) (by decide) (by decide)) (fun _ h => forkO_of _ h) ?hi21 (by kernel_rfl) ?hQ21 ?hy21 HFF.out ?h21
        case hi21 => simp only [List.getElem?_toArray, List.getElem?_cons_succ, List.getElem?_cons_zero]; exact rfl
        case hQ21 => exact fun _ _ _ h => h
        case hy21 => (refine Or.inl ⟨by rfl, ?_⟩; intro w' hSw; (try dsimp only at hSw); (try obtain ⟨⟨hS1, hS2⟩, hS3⟩ := hSw); (try dsimp only [forkG] at hS3); go_simp; (try with_reducible rfl))
        simp only [Act.put, List.setIfInBounds_toArray, List.set_cons_zero, List.set_cons_succ]
        refine readyU [21] (by kernel_rfl) (by simp) ?_
        refine EachU.cons (o := ?o22) ?ho22 (fun K hK => ?_) ?_
        case ho22 => simp only [List.getElem?_toArray, List.getElem?_cons_succ, List.getElem?_cons_zero]; exact rfl
        rotate_left
        · exact EachU.nil
        go_simp
        refine hK.out _ _ (forkO_of _ HFA.out) (fun _ => ?_)
        clear hK K
        (try simp only [Act.put, List.setIfInBounds_toArray, List.set_cons_zero, List.set_cons_succ])
        refine readyU [22] (by kernel_rfl) (by simp) ?_
        refine EachU.cons (o := ?o23) ?ho23 (fun K hK => ?_) ?_
        case ho23 => simp only [List.getElem?_toArray, List.getElem?_cons_succ, List.getElem?_cons_zero]; exact rfl
        rotate_left
        · exact EachU.nil
        refine step_append_lies _ (by rfl) _ _ 40 (by rfl) B 35 i0 _ 7 48 Try.underlying40 hi hz0 hz1 hz2 (by rfl) (by decide) _ s.L.length (rowsC s.L) (by simp [Act.eval, Act.put]) HA.out.o
          ⟨w2.heap.size, 0, none⟩ 1 1 (prC (kidOf s a false p)) (by simp [Act.eval, Act.put]) (by rfl) (pr_new w2.drew _ (kidOf s a false p)) (prC_one _) (by decide) (by unfold maxLen; omega) (by omega) (by simp; omega) (w2.heap.size + 1) (by simp) ?_
        intro g4 cap4 w3 hown hgrow hat hlt4
        have fD := (Fr.grown hgrow).block D (heap_lt HA.out.hb) (fun hk => HA.out.nD D hk rfl)
        have g0 := (World.cell?_of_block (a := ⟨D, 0, none⟩) fD).trans HA.out.cell.1
        have g1 := (World.cell?_of_block (a := ⟨D, 1, none⟩) fD).trans HA.out.cell.2.1
        have e0 := (World.frozen?_of_block (a := ⟨D, 0, none⟩) fD).trans (HA.out.frozen 0)
        have HK2 := Lib.hid (HA.out.a0 hgrow (row_more s.L (kidOf s a false p) hown) (at_new hat (by simp)))
        clear hown hgrow hat hlt4 fD
        refine hK.out _ _ ⟨fun _ => ⟨g0, g1⟩, fun h => absurd (by decide) h⟩ (fun _ => ?_)
        clear hK K
        (try simp only [Act.put, List.setIfInBounds_toArray, List.set_cons_zero, List.set_cons_succ])
        refine readyU [23] (by kernel_rfl) (by simp) ?_
        refine EachU.cons (o := ?o24) ?ho24 (fun K hK => ?_) ?_
        case ho24 => simp only [List.getElem?_toArray, List.getElem?_cons_succ, List.getElem?_cons_zero]; exact rfl
        rotate_left
        · exact EachU.nil
        go_simp
        refine hK.out _ _ ⟨fun _ => ⟨g0, g1⟩, fun h => absurd (by decide) h⟩ (fun _ => ?_)
        clear hK K
        (try simp only [Act.put, List.setIfInBounds_toArray, List.set_cons_zero, List.set_cons_succ])
        refine readyU [24] (by kernel_rfl) (by simp) ?_
        refine EachU.cons (o := ?o25) ?ho25 (fun K hK => ?_) ?_
        case ho25 => simp only [List.getElem?_toArray, List.getElem?_cons_succ, List.getElem?_cons_zero]; exact rfl
        rotate_left
        · exact EachU.nil
        go_simp
        refine hK.out _ _ ⟨fun _ => ⟨g0, g1⟩, fun h => absurd (by decide) h⟩ (fun _ => ?_)
        clear hK K
        (try simp only [Act.put, List.setIfInBounds_toArray, List.set_cons_zero, List.set_cons_succ])
        refine readyU [25] (by kernel_rfl) (by simp) ?_
        refine EachU.cons (o := ?o26) ?ho26 (fun K hK => ?_) ?_
        case ho26 => simp only [List.getElem?_toArray, List.getElem?_cons_succ, List.getElem?_cons_zero]; exact rfl
        rotate_left
        · exact EachU.nil
        go_simp
        refine hK.out _ _ forkO_t (fun _ => ?_)
        clear hK K
        (try simp only [Act.put, List.setIfInBounds_toArray, List.set_cons_zero, List.set_cons_succ])
        refine doneU (by kernel_rfl) ?_ _
        have ST := Lib.hid (fin_new HK2.out.2.1 HK2.out.2.2)
        have KD := Lib.hid HK2.out.1
        clear HK2 g0 g1 e0 d0 d1 e3 f0 HA b0 b1 b2 b3
        generalize w3.setCell ⟨D, 0, none⟩ (.slice (some ⟨g4, 0, none⟩) (s.L.length + 1) cap4) = w4 at *
        obtain ⟨-, c1, -⟩ := KD.out.cell
        go_wp2
        go_ret2
        rw [HTT.out]
        exact ⟨rfl, _, ⟨_, _, KD.out, rfl⟩, HSt.out.trans ST.out⟩
      · have he' : forkE s a false ≠ 0 := by rw [hfe]; exact he
        obtain ⟨q1, q2⟩ := fork_not he'
        rw [q1, q2, hfe]
        have i4 : (roomP s p.user == 0) = false := by simpa using he
        generalize roomP s p.user = z at *
        clear h1 hlv hs hk hk1 hfe he he' q1 q2
        go_enter Try.func23, Try.ntmps23
        go_wp2_with (first
          | (go_at_call 35; refine hA.out.mono ?_; rintro e w' ⟨rfl, rfl⟩)
          | (go_at_call 36; refine HM.out.mono ?_; rintro e w1 ⟨rfl, rfl⟩))
        go_ret2
        exact ⟨rfl, HT.out.does⟩
    · have hfe : forkE s a true = if a = 1 then (if 5 ≤ resP s.L then 12 else 0) else 2 := by unfold forkE; rw [hlv]; rfl
      by_cases ha : a = 1
      · rw [if_pos ha] at hfe
        have i4 : (a != 1) = false := by rw [ha]; rfl
        have H := Lib.hid h1
        have HFE := Lib.hid hfe
        have HFO := Lib.hid fun he => fork_of (s := s) (a := a) (r := true) hlv he
        have HFN := Lib.hid fun he => fork_not (s := s) (a := a) (r := true) he
        have HKK := Lib.hid hk
        obtain ⟨i0, hi, hz0, hz1, hz2⟩ := info_rproc
        clear h1 hlv hs hk hk1 hfe ha
        go_enter Try.func23, Try.ntmps23
        go_wp2_with (go_at_call 35; refine hA.out.mono ?_; rintro e w' ⟨rfl, rfl⟩)
        go_loopw [10, 11] (fun nv iv wr => rcRel W s.L (·.reserve) nv iv wr) (fun _ iv _ => s.L.length - (Lib.intOf iv).toNat)
        case atStart => exact ⟨0, rfl, Nat.zero_le _, rfl, rfl⟩
        case round =>
          obtain ⟨j, rfl, hj, rfl, rfl⟩ := hrel
          by_cases hjl : j < s.L.length
          · have hp : s.L[j]? = some (s.L[j]'hjl) := List.getElem?_eq_getElem _
            generalize s.L[j]'hjl = q at hp
            obtain ⟨-, -, -, -, -, -, e6⟩ := H.out.cellP hp
            have m1 : (0 : Int) ≤ (j : Int) := by omega
            have m2 : (j : Int) < (s.L.length : Int) := by omega
            have hst := cnt_take (·.reserve) hp
            have hle := cnt_take_le (·.reserve) s.L j
            generalize hc : (s.L.take j).countP (·.reserve) = c at *
            generalize hd : (s.L.take (j + 1)).countP (·.reserve) = d at *
            have HD := Lib.hid hd
            clear hp hc hd
            cases hr : q.reserve
            · rw [hr] at hst e6
              simp only [Bool.false_eq_true, if_false, Nat.add_zero] at hst
              subst hst
              clear hle
              go_wp2
              go_roundw
              case rel => exact ⟨j + 1, by go_num, by omega, by rw [HD.out], rfl⟩
              case measure => simp [Lib.intOf]; omega
            · rw [hr] at hst e6
              simp only [if_true] at hst
              go_wp2
              go_roundw
              case rel => exact ⟨j + 1, by go_num, by omega, by rw [HD.out, hst]; go_num, rfl⟩
              case measure => simp [Lib.intOf]; omega
          · have hjn : j = s.L.length := by omega
            have hcr : (s.L.take j).countP (·.reserve) = resP s.L := by rw [hjn, List.take_length]; rfl
            rw [hcr]
            have m2 : ¬ (j : Int) < (s.L.length : Int) := by omega
            have hfe := HFE.out
            clear hjn hcr
            generalize resP s.L = m at *
            by_cases h5 : 5 ≤ m
            · rw [if_pos h5] at hfe
              have HQ := Lib.hid (HFN.out (by rw [hfe]; decide))
              have HE := Lib.hid hfe
              have m3 : (5 : Int) ≤ m := by omega
              clear hfe
              go_wp2
              go_ret2
              rw [HQ.out.1, HQ.out.2, HE.out]
              exact ⟨rfl, hR ▸ HT.out.does⟩
            · rw [if_neg h5] at hfe
              have hN : forkN s a true = s.last + 1 := by unfold forkN; rw [hfe]; rfl
              have HTT := Lib.hid (HFO.out hfe)
              have HE := Lib.hid hfe
              have HN := Lib.hid hN
              have m3 : ¬ (5 : Int) ≤ m := by omega
              have HP := H
              obtain ⟨d0, d1, -⟩ := H.out.cell
              have f1 := H.out.frozen 1
              clear hfe hN
              have HP2 := Lib.hid (HP.out.sLast (s.last + 1))
              have HSt := Lib.hid (show Step R (Bd D (.slice (some ⟨g, 0, none⟩) s.L.length cap) u) wr (wr.setCell ⟨D, 1, none⟩ (.int .i64 (s.last + 1))) from by
                rw [hR]
                exact (Step.refl _ _).trans ⟨(Fr.one _ _ _ _).mono fun k _ hk => .inl hk, fun k hk => .inl hk⟩)
              have hBW2 : B ≤ (wr.setCell ⟨D, 1, none⟩ (.int .i64 (s.last + 1))).heap.size := by
                have := Nat.le_trans HP.out.base (Nat.le_of_lt (heap_lt HP.out.hb))
                simpa [World.setCell] using this
              go_wp2_with fail
              clear HP c0 c1 e2 e3
              generalize hw2 : wr.setCell ⟨D, 1, none⟩ (.int .i64 (s.last + 1)) = w2 at *
              clear hw2
              have hDd := HP2.out.fr (S := fun _ => False) ((Fr.refl _ w2).drew) (fun _ _ => id)
              obtain ⟨d0, d1, -⟩ := hDd.cell
              have f0 := hDd.frozen 0
              obtain ⟨-, -, -, e3, -⟩ := hDd.cellP HKK.out
              have HA := Lib.hid (hDd.fr (S := fun _ => False) ((Fr.refl _ w2.drew).alloc (.cells (prC (kidOf s a true p)).toArray 35)) (fun _ _ => id))
              have hDlt : D < w2.heap.size := heap_lt HP2.out.hb
              obtain ⟨b0, b1, -⟩ := HP2.out.cell
              have b2 := HP2.out.frozen 0
              obtain ⟨-, -, -, b3, -⟩ := HP2.out.cellP HKK.out
              have hglt : g < w2.heap.size := cell_lt b3
              clear hDd
              have HFF := Lib.hid (show forkF D g s.L.length cap k (s.last + 1) p.session w2.drew from ⟨⟨d0, d1⟩, e3⟩)
              have HFA := Lib.hid (show forkF D g s.L.length cap k (s.last + 1) p.session (w2.drew.alloc (.cells (prC (kidOf s a true p)).toArray 35)) from ⟨⟨HA.out.cell.1, HA.out.cell.2.1⟩, (HA.out.cellP HKK.out).2.2.2.1⟩)
              refine regionU (forkO D g s.L.length cap k (s.last + 1) p.session) (by kernel_rfl) ?_
              refine takeU (forkA D g s.L.length cap (s.last + 1)) (oi := ?oi101) (v := ?v101) 0 [23, 24, 25] [] (fun j h1 _ w h => h.1 fun e => h1 (by rw [e]; decide)) (fun _ h => ⟨fun _ => h, fun h2 => absurd (by decide) h2⟩) ?hi101 (by kernel_rfl) ?hQ101 ?hy101 HFF.out.1 ?h101
              case hi101 => simp only [List.getElem?_toArray, List.getElem?_cons_succ, List.getElem?_cons_zero]; exact rfl
              case hQ101 => exact fun _ _ _ h => h
              case hy101 => (refine Or.inl ⟨by rfl, ?_⟩; intro w' hSw; (try dsimp only at hSw); (try obtain ⟨⟨hS1, hS2⟩, hS3⟩ := hSw); (try dsimp only [forkG] at hS3); go_simp; (try with_reducible rfl))
              simp only [Act.put, List.setIfInBounds_toArray, List.set_cons_zero, List.set_cons_succ]
              refine takeU (forkF D g s.L.length cap k (s.last + 1) p.session) (oi := ?oi102) (v := ?v102) 1 [2, 3, 4, 22, 23, 24, 25] [0] (fun j h1 h2 w h => forkO_F h h1 (by simpa using h2) (by decide) (by decide) (by decide) (by decide)) (fun _ h => forkO_of _ h) ?hi102 (by kernel_rfl) ?hQ102 ?hy102 HFF.out ?h102
              case hi102 => simp only [List.getElem?_toArray, List.getElem?_cons_succ, List.getElem?_cons_zero]; exact rfl
              case hQ102 => exact fun _ _ _ h => h
              case hy102 => (refine Or.inl ⟨by rfl, ?_⟩; intro w' hSw; (try dsimp only at hSw); (try obtain ⟨⟨hS1, hS2⟩, hS3⟩ := hSw); (try dsimp only [forkG] at hS3); go_simp; (try with_reducible rfl))
              simp only [Act.put, List.setIfInBounds_toArray, List.set_cons_zero, List.set_cons_succ]
              refine takeU (forkF D g s.L.length cap k (s.last + 1) p.session) (oi := ?oi103) (v := ?v103) 2 [3, 4, 22, 23, 24, 25] [0] (fun j h1 h2 w h => forkO_F h h1 (by simpa using h2) (by decide) (by decide) (by decide) (by decide)) (fun _ h => forkO_of _ h) ?hi103 (by kernel_rfl) ?hQ103 ?hy103 HFF.out ?h103
              case hi103 => simp only [List.getElem?_toArray, List.getElem?_cons_succ, List.getElem?_cons_zero]; exact rfl
              case hQ103 => exact fun _ _ _ h => h
              case hy103 => (refine Or.inl ⟨by rfl, ?_⟩; intro w' hSw; (try dsimp only at hSw); (try obtain ⟨⟨hS1, hS2⟩, hS3⟩ := hSw); (try dsimp only [forkG] at hS3); go_simp; (try with_reducible rfl))
              simp only [Act.put, List.setIfInBounds_toArray, List.set_cons_zero, List.set_cons_succ]
              refine takeU (forkF D g s.L.length cap k (s.last + 1) p.session) (oi := ?oi104) (v := ?v104) 3 [4, 22, 23, 24, 25] [0] (fun j h1 h2 w h => forkO_F h h1 (by simpa using h2) (by decide) (by decide) (by decide) (by decide)) (fun _ h => forkO_of _ h) ?hi104 (by kernel_rfl) ?hQ104 ?hy104 HFF.out ?h104
              case hi104 => simp only [List.getElem?_toArray, List.getElem?_cons_succ, List.getElem?_cons_zero]; exact rfl
              case hQ104 => exact fun _ _ _ h => h
              case hy104 => (refine Or.inl ⟨by rfl, ?_⟩; intro w' hSw; (try dsimp only at hSw); (try obtain ⟨⟨hS1, hS2⟩, hS3⟩ := hSw); (try dsimp only [forkG] at hS3); go_simp; (try with_reducible rfl))
              simp only [Act.put, List.setIfInBounds_toArray, List.set_cons_zero, List.set_cons_succ]
              refine takeU (forkF D g s.L.length cap k (s.last + 1) p.session) (oi := ?oi105) (v := ?v105) 4 [22, 23, 24, 25] [0] (fun j h1 h2 w h => forkO_F h h1 (by simpa using h2) (by decide) (by decide) (by decide) (by decide)) (fun _ h => forkO_of _ h) ?hi105 (by kernel_rfl) ?hQ105 ?hy105 HFF.out ?h105
              case hi105 => simp only [List.getElem?_toArray, List.getElem?_cons_succ, List.getElem?_cons_zero]; exact rfl
              case hQ105 => exact fun _ _ _ h => h
              case hy105 => (refine Or.inl ⟨by rfl, ?_⟩; intro w' hSw; (try dsimp only at hSw); (try obtain ⟨⟨hS1, hS2⟩, hS3⟩ := hSw); (try dsimp only [forkG] at hS3); go_simp; (try with_reducible rfl))
              simp only [Act.put, List.setIfInBounds_toArray, List.set_cons_zero, List.set_cons_succ]
              refine takeU (forkF D g s.L.length cap k (s.last + 1) p.session) (oi := ?oi106) (v := ?v106) 5 [6, 7, 8, 20, 21, 22, 23, 24, 25] [0] (fun j h1 h2 w h => forkO_F h h1 (by simpa using h2) (by decide) (by decide) (by decide) (by decide)) (fun _ h => forkO_of _ h) ?hi106 (by kernel_rfl) ?hQ106 ?hy106 HFF.out ?h106
              case hi106 => simp only [List.getElem?_toArray, List.getElem?_cons_succ, List.getElem?_cons_zero]; exact rfl
              case hQ106 => exact fun _ _ _ h => h
              case hy106 => (refine Or.inl ⟨by rfl, ?_⟩; intro w' hSw; (try dsimp only at hSw); (try obtain ⟨⟨hS1, hS2⟩, hS3⟩ := hSw); (try dsimp only [forkG] at hS3); go_simp; (try with_reducible rfl))
              simp only [Act.put, List.setIfInBounds_toArray, List.set_cons_zero, List.set_cons_succ]
              refine takeU (forkF D g s.L.length cap k (s.last + 1) p.session) (oi := ?oi107) (v := ?v107) 6 [7, 8, 20, 21, 22, 23, 24, 25] [0] (fun j h1 h2 w h => forkO_F h h1 (by simpa using h2) (by decide) (by decide) (by decide) (by decide)) (fun _ h => forkO_of _ h) ?hi107 (by kernel_rfl) ?hQ107 ?hy107 HFF.out ?h107
              case hi107 => simp only [List.getElem?_toArray, List.getElem?_cons_succ, List.getElem?_cons_zero]; exact rfl
              case hQ107 => exact fun _ _ _ h => h
              case hy107 => (refine Or.inl ⟨by rfl, ?_⟩; intro w' hSw; (try dsimp only at hSw); (try obtain ⟨⟨hS1, hS2⟩, hS3⟩ := hSw); (try dsimp only [forkG] at hS3); go_simp; (try with_reducible rfl))
              simp only [Act.put, List.setIfInBounds_toArray, List.set_cons_zero, List.set_cons_succ]
              refine takeU (forkF D g s.L.length cap k (s.last + 1) p.session) (oi := ?oi108) (v := ?v108) 7 [8, 20, 21, 22, 23, 24, 25] [0] (fun j h1 h2 w h => forkO_F h h1 (by simpa using h2) (by decide) (by decide) (by decide) (by decide)) (fun _ h => forkO_of _ h) ?hi108 (by kernel_rfl) ?hQ108 ?hy108 HFF.out ?h108
              case hi108 => simp only [List.getElem?_toArray, List.getElem?_cons_succ, List.getElem?_cons_zero]; exact rfl
              case hQ108 => exact fun _ _ _ h => h
              case hy108 => (refine Or.inl ⟨by rfl, ?_⟩; intro w' hSw; (try dsimp only at hSw); (try obtain ⟨⟨hS1, hS2⟩, hS3⟩ := hSw); (try dsimp only [forkG] at hS3); go_simp; (try with_reducible rfl))
              simp only [Act.put, List.setIfInBounds_toArray, List.set_cons_zero, List.set_cons_succ]
              refine takeU (forkF D g s.L.length cap k (s.last + 1) p.session) (oi := ?oi109) (v := ?v109) 8 [20, 21, 22, 23, 24, 25] [0] (fun j h1 h2 w h => forkO_F h h1 (by simpa using h2) (by decide) (by decide) (by decide) (by decide)) (fun _ h => forkO_of _ h) ?hi109 (by kernel_rfl) ?hQ109 ?hy109 HFF.out ?h109
              case hi109 => simp only [List.getElem?_toArray, List.getElem?_cons_succ, List.getElem?_cons_zero]; exact rfl
              case hQ109 => exact fun _ _ _ h => h
              case hy109 => (refine Or.inl ⟨by rfl, ?_⟩; intro w' hSw; (try dsimp only at hSw); (try obtain ⟨⟨hS1, hS2⟩, hS3⟩ := hSw); (try dsimp only [forkG] at hS3); go_simp; (try with_reducible rfl))
              simp only [Act.put, List.setIfInBounds_toArray, List.set_cons_zero, List.set_cons_succ]
              refine takeU (forkF D g s.L.length cap k (s.last + 1) p.session) (oi := ?oi110) (v := ?v110) 9 [20, 21, 22, 23, 24, 25] [0] (fun j h1 h2 w h => forkO_F h h1 (by simpa using h2) (by decide) (by decide) (by decide) (by decide)) (fun _ h => forkO_of _ h) ?hi110 (by kernel_rfl) ?hQ110 ?hy110 HFF.out ?h110
              case hi110 => simp only [List.getElem?_toArray, List.getElem?_cons_succ, List.getElem?_cons_zero]; exact rfl
              case hQ110 => exact fun _ _ _ h => h
              case hy110 => (refine Or.inl ⟨by rfl, ?_⟩; intro w' hSw; (try dsimp only at hSw); (try obtain ⟨⟨hS1, hS2⟩, hS3⟩ := hSw); (try dsimp only [forkG] at hS3); go_simp; (try with_reducible rfl))
              simp only [Act.put, List.setIfInBounds_toArray, List.set_cons_zero, List.set_cons_succ]
              refine takeU (forkF D g s.L.length cap k (s.last + 1) p.session) (oi := ?oi111) (v := ?v111) 10 [20, 21, 22, 23, 24, 25] [0] (fun j h1 h2 w h => forkO_F h h1 (by simpa using h2) (by decide) (by decide) (by decide) (by decide)) (fun _ h => forkO_of _ h) ?hi111 (by kernel_rfl) ?hQ111 ?hy111 HFF.out ?h111
              case hi111 => simp only [List.getElem?_toArray, List.getElem?_cons_succ, List.getElem?_cons_zero]; exact rfl
              case hQ111 => exact fun _ _ _ h => h
              case hy111 => (refine Or.inl ⟨by rfl, ?_⟩; intro w' hSw; (try dsimp only at hSw); (try obtain ⟨⟨hS1, hS2⟩, hS3⟩ := hSw); (try dsimp only [forkG] at hS3); go_simp; (try with_reducible rfl))
              simp only [Act.put, List.setIfInBounds_toArray, List.set_cons_zero, List.set_cons_succ]
              refine takeU (forkF D g s.L.length cap k (s.last + 1) p.session) (oi := ?oi112) (v := ?v112) 11 [12, 13, 14, 16, 17, 18, 20, 21, 22, 23, 24, 25] [0] (fun j h1 h2 w h => forkO_F h h1 (by simpa using h2) (by decide) (by decide) (by decide) (by decide)) (fun _ h => forkO_of _ h) ?hi112 (by kernel_rfl) ?hQ112 ?hy112 HFF.out ?h112
              case hi112 => simp only [List.getElem?_toArray, List.getElem?_cons_succ, List.getElem?_cons_zero]; exact rfl
              case hQ112 => exact fun _ _ _ h => h
              case hy112 => (refine Or.inl ⟨by rfl, ?_⟩; intro w' hSw; (try dsimp only at hSw); (try obtain ⟨⟨hS1, hS2⟩, hS3⟩ := hSw); (try dsimp only [forkG] at hS3); go_simp; (try with_reducible rfl))
              simp only [Act.put, List.setIfInBounds_toArray, List.set_cons_zero, List.set_cons_succ]
              refine takeU (forkF D g s.L.length cap k (s.last + 1) p.session) (oi := ?oi113) (v := ?v113) 12 [13, 14, 16, 17, 18, 20, 21, 22, 23, 24, 25] [0] (fun j h1 h2 w h => forkO_F h h1 (by simpa using h2) (by decide) (by decide) (by decide) (by decide)) (fun _ h => forkO_of _ h) ?hi113 (by kernel_rfl) ?hQ113 ?hy113 HFF.out ?h113
              case hi113 => simp only [List.getElem?_toArray, List.getElem?_cons_succ, List.getElem?_cons_zero]; exact rfl
              case hQ113 => exact fun _ _ _ h => h
              case hy113 => (refine Or.inl ⟨by rfl, ?_⟩; intro w' hSw; (try dsimp only at hSw); (try obtain ⟨⟨hS1, hS2⟩, hS3⟩ := hSw); (try dsimp only [forkG] at hS3); go_simp; (try with_reducible rfl))
              simp only [Act.put, List.setIfInBounds_toArray, List.set_cons_zero, List.set_cons_succ]
              refine takeU (forkF D g s.L.length cap k (s.last + 1) p.session) (oi := ?oi114) (v := ?v114) 13 [14, 16, 17, 18, 20, 21, 22, 23, 24, 25] [0] (fun j h1 h2 w h => forkO_F h h1 (by simpa using h2) (by decide) (by decide) (by decide) (by decide)) (fun _ h => forkO_of _ h) ?hi114 (by kernel_rfl) ?hQ114 ?hy114 HFF.out ?h114
              case hi114 => simp only [List.getElem?_toArray, List.getElem?_cons_succ, List.getElem?_cons_zero]; exact rfl
              case hQ114 => exact fun _ _ _ h => h
              case hy114 => (refine Or.inl ⟨by rfl, ?_⟩; intro w' hSw; (try dsimp only at hSw); (try obtain ⟨⟨hS1, hS2⟩, hS3⟩ := hSw); (try dsimp only [forkG] at hS3); go_simp; (try with_reducible rfl))
              simp only [Act.put, List.setIfInBounds_toArray, List.set_cons_zero, List.set_cons_succ]
              refine takeU (forkF D g s.L.length cap k (s.last + 1) p.session) (oi := ?oi115) (v := ?v115) 14 [16, 17, 18, 20, 21, 22, 23, 24, 25] [0] (fun j h1 h2 w h => forkO_F h h1 (by simpa using h2) (by decide) (by decide) (by decide) (by decide)) (fun _ h => forkO_of _ h) ?hi115 (by kernel_rfl) ?hQ115 ?hy115 HFF.out ?h115
              case hi115 => simp only [List.getElem?_toArray, List.getElem?_cons_succ, List.getElem?_cons_zero]; exact rfl
              case hQ115 => exact fun _ _ _ h => h
              case hy115 => (refine Or.inl ⟨by rfl, ?_⟩; intro w' hSw; (try dsimp only at hSw); (try obtain ⟨⟨hS1, hS2⟩, hS3⟩ := hSw); (try dsimp only [forkG] at hS3); go_simp; (try with_reducible rfl))
              simp only [Act.put, List.setIfInBounds_toArray, List.set_cons_zero, List.set_cons_succ]
              refine takeU (forkF D g s.L.length cap k (s.last + 1) p.session) (oi := ?oi116) (v := ?v116) 15 [16, 17, 18, 20, 21, 22, 23, 24, 25] [0] (fun j h1 h2 w h => forkO_F h h1 (by simpa using h2) (by decide) (by decide) (by decide) (by decide)) (fun _ h => forkO_of _ h) ?hi116 (by kernel_rfl) ?hQ116 ?hy116 HFF.out ?h116
              case hi116 => simp only [List.getElem?_toArray, List.getElem?_cons_succ, List.getElem?_cons_zero]; exact rfl
              case hQ116 => exact fun _ _ _ h => h
              case hy116 => (refine Or.inl ⟨by rfl, ?_⟩; intro w' hSw; (try dsimp only at hSw); (try obtain ⟨⟨hS1, hS2⟩, hS3⟩ := hSw); (try dsimp only [forkG] at hS3); go_simp; (try with_reducible rfl))
              simp only [Act.put, List.setIfInBounds_toArray, List.set_cons_zero, List.set_cons_succ]
              refine takeU (forkF D g s.L.length cap k (s.last + 1) p.session) (oi := ?oi117) (v := ?v117) 16 [17, 18, 20, 21, 22, 23, 24, 25] [0] (fun j h1 h2 w h => forkO_F h h1 (by simpa using h2) (by decide) (by decide) (by decide) (by decide)) (fun _ h => forkO_of _ h) ?hi117 (by kernel_rfl) ?hQ117 ?hy117 HFF.out ?h117
              case hi117 => simp only [List.getElem?_toArray, List.getElem?_cons_succ, List.getElem?_cons_zero]; exact rfl
              case hQ117 => exact fun _ _ _ h => h
              case hy117 => (refine Or.inl ⟨by rfl, ?_⟩; intro w' hSw; (try dsimp only at hSw); (try obtain ⟨⟨hS1, hS2⟩, hS3⟩ := hSw); (try dsimp only [forkG] at hS3); go_simp; (try with_reducible rfl))
              simp only [Act.put, List.setIfInBounds_toArray, List.set_cons_zero, List.set_cons_succ]
              refine takeU (forkF D g s.L.length cap k (s.last + 1) p.session) (oi := ?oi118) (v := ?v118) 17 [18, 20, 21, 22, 23, 24, 25] [0] (fun j h1 h2 w h => forkO_F h h1 (by simpa using h2) (by decide) (by decide) (by decide) (by decide)) (fun _ h => forkO_of _ h) ?hi118 (by kernel_rfl) ?hQ118 ?hy118 HFF.out ?h118
              case hi118 => simp only [List.getElem?_toArray, List.getElem?_cons_succ, List.getElem?_cons_zero]; exact rfl
              case hQ118 => exact fun _ _ _ h => h
              case hy118 => (refine Or.inl ⟨by rfl, ?_⟩; intro w' hSw; (try dsimp only at hSw); (try obtain ⟨⟨hS1, hS2⟩, hS3⟩ := hSw); (try dsimp only [forkG] at hS3); go_simp; (try with_reducible rfl))
              simp only [Act.put, List.setIfInBounds_toArray, List.set_cons_zero, List.set_cons_succ]
              refine takeU (forkF D g s.L.length cap k (s.last + 1) p.session) (oi := ?oi119) (v := ?v119) 18 [20, 21, 22, 23, 24, 25] [0] (fun j h1 h2 w h => forkO_F h h1 (by simpa using h2) (by decide) (by decide) (by decide) (by decide)) (fun _ h => forkO_of _ h) ?hi119 (by kernel_rfl) ?hQ119 ?hy119 HFF.out ?h119
              case hi119 => simp only [List.getElem?_toArray, List.getElem?_cons_succ, List.getElem?_cons_zero]; exact rfl
              case hQ119 => exact fun _ _ _ h => h
              case hy119 => (refine Or.inl ⟨by rfl, ?_⟩; intro w' hSw; (try dsimp only at hSw); (try obtain ⟨⟨hS1, hS2⟩, hS3⟩ := hSw); (try dsimp only [forkG] at hS3); go_simp; (try with_reducible rfl))
              simp only [Act.put, List.setIfInBounds_toArray, List.set_cons_zero, List.set_cons_succ]
              refine takeU (forkF D g s.L.length cap k (s.last + 1) p.session) (oi := ?oi120) (v := ?v120) 19 [20, 21, 22, 23, 24, 25] [0] (fun j h1 h2 w h => forkO_F h h1 (by simpa using h2) (by decide) (by decide) (by decide) (by decide)) (fun _ h => forkO_of _ h) ?hi120 (by kernel_rfl) ?hQ120 ?hy120 HFF.out ?h120
              case hi120 => simp only [List.getElem?_toArray, List.getElem?_cons_succ, List.getElem?_cons_zero]; exact rfl
              case hQ120 => exact fun _ _ _ h => h
              case hy120 => (refine Or.inl ⟨by rfl, ?_⟩; intro w' hSw; (try dsimp only at hSw); (try obtain ⟨⟨hS1, hS2⟩, hS3⟩ := hSw); (try dsimp only [forkG] at hS3); go_simp; (try with_reducible rfl))
              simp only [Act.put, List.setIfInBounds_toArray, List.set_cons_zero, List.set_cons_succ]
              refine takeU (forkF D g s.L.length cap k (s.last + 1) p.session) (oi := ?oi121) (v := ?v121) 20 [21, 22, 23, 24, 25] [0] (fun j h1 h2 w h => forkO_F h h1 (by simpa using h2) (by decide) (by decide) (by decide) (by decide)) (fun _ h => forkO_of _ h) ?hi121 (by kernel_rfl) ?hQ121 ?hy121 HFF.out ?h121
              case hi121 => simp only [List.getElem?_toArray, List.getElem?_cons_succ, List.getElem?_cons_zero]; exact rfl
              case hQ121 => exact fun _ _ _ h => h
              case hy121 => (refine Or.inl ⟨by rfl, ?_⟩; intro w' hSw; (try dsimp only at hSw); (try obtain ⟨⟨hS1, hS2⟩, hS3⟩ := hSw); (try dsimp only [forkG] at hS3); go_simp; (try with_reducible rfl))
              simp only [Act.put, List.setIfInBounds_toArray, List.set_cons_zero, List.set_cons_succ]
              refine readyU [21] (by kernel_rfl) (by simp) ?_
              refine EachU.cons (o := ?o122) ?ho122 (fun K hK => ?_) ?_
              case ho122 => simp only [List.getElem?_toArray, List.getElem?_cons_succ, List.getElem?_cons_zero]; exact rfl
              rotate_left
              · exact EachU.nil
              go_simp
              refine hK.out _ _ (forkO_of _ HFA.out) (fun _ => ?_)
              clear hK K
              (try simp only [Act.put, List.setIfInBounds_toArray, List.set_cons_zero, List.set_cons_succ])
              refine readyU [22] (by kernel_rfl) (by simp) ?_
              refine EachU.cons (o := ?o123) ?ho123 (fun K hK => ?_) ?_
              case ho123 => simp only [List.getElem?_toArray, List.getElem?_cons_succ, List.getElem?_cons_zero]; exact rfl
              rotate_left
              · exact EachU.nil
              refine step_append_lies _ (by rfl) _ _ 40 (by rfl) B 35 i0 _ 7 48 Try.underlying40 hi hz0 hz1 hz2 (by rfl) (by decide) _ s.L.length (rowsC s.L) (by simp [Act.eval, Act.put]) HA.out.o
                ⟨w2.heap.size, 0, none⟩ 1 1 (prC (kidOf s a true p)) (by simp [Act.eval, Act.put]) (by rfl) (pr_new w2.drew _ (kidOf s a true p)) (prC_one _) (by decide) (by unfold maxLen; omega) (by omega) (by simp; omega) (w2.heap.size + 1) (by simp) ?_
              intro g4 cap4 w3 hown hgrow hat hlt4
              have fD := (Fr.grown hgrow).block D (heap_lt HA.out.hb) (fun hk => HA.out.nD D hk rfl)
              have g0 := (World.cell?_of_block (a := ⟨D, 0, none⟩) fD).trans HA.out.cell.1
              have g1 := (World.cell?_of_block (a := ⟨D, 1, none⟩) fD).trans HA.out.cell.2.1
              have e0 := (World.frozen?_of_block (a := ⟨D, 0, none⟩) fD).trans (HA.out.frozen 0)
              have HK2 := Lib.hid (HA.out.a0 hgrow (row_more s.L (kidOf s a true p) hown) (at_new hat (by simp)))
              clear hown hgrow hat hlt4 fD
              refine hK.out _ _ ⟨fun _ => ⟨g0, g1⟩, fun h => absurd (by decide) h⟩ (fun _ => ?_)
              clear hK K
              (try simp only [Act.put, List.setIfInBounds_toArray, List.set_cons_zero, List.set_cons_succ])
              refine readyU [23] (by kernel_rfl) (by simp) ?_
              refine EachU.cons (o := ?o124) ?ho124 (fun K hK => ?_) ?_
              case ho124 => simp only [List.getElem?_toArray, List.getElem?_cons_succ, List.getElem?_cons_zero]; exact rfl
              rotate_left
              · exact EachU.nil
              go_simp
              refine hK.out _ _ ⟨fun _ => ⟨g0, g1⟩, fun h => absurd (by decide) h⟩ (fun _ => ?_)
              clear hK K
              (try simp only [Act.put, List.setIfInBounds_toArray, List.set_cons_zero, List.set_cons_succ])
              refine readyU [24] (by kernel_rfl) (by simp) ?_
              refine EachU.cons (o := ?o125) ?ho125 (fun K hK => ?_) ?_
              case ho125 => simp only [List.getElem?_toArray, List.getElem?_cons_succ, List.getElem?_cons_zero]; exact rfl
              rotate_left
              · exact EachU.nil
              go_simp
              refine hK.out _ _ ⟨fun _ => ⟨g0, g1⟩, fun h => absurd (by decide) h⟩ (fun _ => ?_)
              clear hK K
              (try simp only [Act.put, List.setIfInBounds_toArray, List.set_cons_zero, List.set_cons_succ])
              refine readyU [25] (by kernel_rfl) (by simp) ?_
              refine EachU.cons (o := ?o126) ?ho126 (fun K hK => ?_) ?_
              case ho126 => simp only [List.getElem?_toArray, List.getElem?_cons_succ, List.getElem?_cons_zero]; exact rfl
              rotate_left
              · exact EachU.nil
              go_simp
              refine hK.out _ _ forkO_t (fun _ => ?_)
              clear hK K
              (try simp only [Act.put, List.setIfInBounds_toArray, List.set_cons_zero, List.set_cons_succ])
              refine doneU (by kernel_rfl) ?_ _
              have ST := Lib.hid (fin_new HK2.out.2.1 HK2.out.2.2)
              have KD := Lib.hid HK2.out.1
              clear HK2 g0 g1 e0 d0 d1 e3 f0 HA b0 b1 b2 b3
              generalize w3.setCell ⟨D, 0, none⟩ (.slice (some ⟨g4, 0, none⟩) (s.L.length + 1) cap4) = w4 at *
              obtain ⟨-, c1, -⟩ := KD.out.cell
              go_wp2
              go_ret2
              rw [HTT.out, HE.out, HN.out]
              exact ⟨rfl, _, ⟨_, _, KD.out, rfl⟩, HSt.out.trans ST.out⟩
      · rw [if_neg ha] at hfe
        obtain ⟨q1, q2⟩ := fork_not (show forkE s a true ≠ 0 by rw [hfe]; decide)
        rw [q1, q2, hfe]
        have i4 : (a != 1) = true := by simpa using ha
        clear h1 hlv hs hk hk1 hfe q1 q2
        go_enter Try.func23, Try.ntmps23
        go_wp2_with (go_at_call 35; refine hA.out.mono ?_; rintro e w' ⟨rfl, rfl⟩)
        go_ret2
        exact ⟨rfl, HT.out.does⟩
end
end Go.Proofs.Ytgbmedbkonloiaa
