/- Contract of the program's Read. -/
import Derived.Test.YthgjhpiajjamnaaKD
import Derived.OwnWalk
namespace Go.Proofs.Ythgjhpiajjamnaa
open Go.RowKit
set_option linter.unusedVariables false
set_option linter.unusedSimpArgs false
variable {W W' : World} {P : Nat} {r : Nat → UInt8} {f n rd wr : Nat}

theorem bytesU : Try.prog.underlying 51 = some (.slice (Try.prog.elem 51)) := by kernel_rfl
theorem bytesE (w : World) : (sizeOf (Try.prog.elem 51)).run Try.prog w = .ok 1 w := by kernel_rfl
theorem cut_from (g : Nat) {k k1 : Nat} (h : k1 ≤ k) : ∃ dp, (∀ w, (Instr.sliceAt 51 (.slice (some ⟨g, 0, none⟩) k k) (some (.int .i64 (k1 : Int))) none none).run Try.prog w = .ok (.slice dp (k - k1) (k - k1)) w) ∧ (k1 < k → dp = some ⟨g, k1, none⟩) := by
  refine ⟨if k = k1 then some ⟨g, 0, none⟩ else some ⟨g, k1, none⟩, fun w => ?_, fun hk => if_neg (by omega)⟩
  rw [run_sliceAt_slice w 51 _ _ _ _ bytesU, run_slice_l w 51 _ k k bytesU .i64 (k1 : Int) (by omega) (by omega), bytesE]
  simp only [Result.andThen_ok, Int.toNat_natCast]
  unfold sliced
  congr 2
  by_cases e : k = k1
  · rw [if_pos e, if_pos e]
  · rw [if_neg e, if_neg e]
    show some ((⟨g, 0, none⟩ : Addr).add (k1 * 1)) = _
    rw [Nat.mul_one, Addr.add_lit, Nat.zero_add]
def zerosB (k : Nat) : Bs := List.replicate k 0
theorem made_zero (n : Nat) : (madeCells #[Value.int .u8 0] n).toList = (zerosB n).map cellB := by
  unfold zerosB
  rw [List.map_replicate]
  unfold madeCells
  apply List.ext_getElem
  · simp
  · intro j h1 h2
    have : j % 1 = 0 := Nat.mod_one j
    simp [cellB, this]
theorem own_buf {w : World} {base g cap n : Nat} {l : Bs} (h : w.ownsRow base 5 1 (.slice (some ⟨g, 0, none⟩) n cap) n (l.map cellB)) : Buf w g l := by
  refine ⟨fun j b hj => ?_, fun j => h.frozenAt j⟩
  have hjl := (List.getElem?_eq_some_iff.1 hj).1
  have hl : l.length = n := by simpa using h.1
  rw [h.cellAt j (by omega), List.getElem?_map, hj]
  rfl
theorem text_of {g : Nat} {l : Bs} (h : ∀ (j : Nat) (b : UInt8), l[j]? = some b → W.cell? ⟨g, j, none⟩ = some (cellB b)) (cap : Nat) : (convert 51 9 (.slice (some ⟨g, 0, none⟩) l.length cap)).run Try.prog W = .ok (.string ⟨l.toArray⟩) W :=
  run_convert_bytes_back W 51 9 5 ⟨g, 0, none⟩ cap l Try.underlying51 Try.underlying5 Try.underlying9 fun j hj => by
    rw [Addr.add_lit, Nat.zero_add]
    exact h j _ (List.getElem?_eq_getElem hj)
theorem ret_pair {a b c d : Value} (h : a = c) (k : b = d) : Ending.returned (.tuple #[a, b]) = .returned (.tuple #[c, d]) := by rw [h, k]
/-- how many bytes Read takes. -/
def readK (N : Int) (n : Nat) : Nat := (max 0 (min N n)).toNat
theorem readK_le (N : Int) (n : Nat) : readK N n ≤ n := by unfold readK; omega
def endB (n k wr : Nat) : Bool := decide (n - k = 0) && decide (wr = 0)
set_option maxHeartbeats 1000000 in
theorem pread_raw (N : Int) (w : World) (h : PI w P r f n rd wr) :
    Calls Try.prog 15 #[.pointer (some ⟨P, 0, none⟩), .int .i64 N] w fun e w' => e = .returned (.tuple #[.string ⟨(ringL r f (readK N n)).toArray⟩, .bool (endB n (readK N n) wr)]) ∧ PI w' P r ((f + readK N n) % 128) (n - readK N n) rd wr ∧ Fr (· = P) w w' := by
  obtain ⟨c0, c1, c2, c3⟩ := h.cells
  have hn := h.hn
  have hf := h.hf
  have hk := readK_le N n
  have HP := fun (W : World) (H : PI W P r f n rd wr) => place_any (readK N n) (by omega) W H
  have H := Lib.hid h
  have h7 : (Try.prog.info? 5).map (·.size) = some 1 := elemB
  have key : (N ≤ 0 ∧ readK N n = 0) ∨ (0 < N ∧ N ≤ n ∧ (readK N n : Int) = N) ∨ (0 < N ∧ n < N ∧ 0 < (n : Int) ∧ readK N n = n) ∨ (0 < N ∧ n < N ∧ (n : Int) ≤ 0 ∧ readK N n = n) := by unfold readK; omega
  obtain ⟨B, hB⟩ : ∃ B, w.heap.size = B := ⟨_, rfl⟩
  have HB := Lib.hid hB
  have hPB : P < B := by rw [← hB]; exact h.row.lt
  clear h hB
  generalize readK N n = k at *
  have hq := Nat.mod_lt (f + k) (show 0 < 128 by decide)
  generalize (f + k) % 128 = q at *
  obtain ⟨T, hT⟩ : ∃ T : ByteArray, T = ⟨(ringL r f k).toArray⟩ := ⟨_, rfl⟩
  obtain ⟨d, hd⟩ : ∃ d : Nat, n = k + d := ⟨n - k, by omega⟩
  rw [← hT, show endB n k wr = (decide (d = 0) && decide (wr = 0)) by unfold endB; rw [show n - k = d by omega], show n - k = d by omega]
  have HT := Lib.hid hT
  have Hd := Lib.hid hd
  clear hT hd
  obtain ⟨i0, hi, hz0, hz1, hz2⟩ := info_parts (show (Try.prog.info? 5).map (fun i => (i.zero, i.size, i.bytes)) = some (some (.int .u8 0), 1, 1) by kernel_rfl)
  rcases key with ⟨h1, hk0⟩ | ⟨h1, h2, hk0⟩ | ⟨h1, h2, h4, hk0⟩ | ⟨h1, h2, h4, hk0⟩
  · have h3 : N ≤ n := by omega
    have HK0 := Lib.hid hk0
    clear hk0
    go_enter Try.func15, Try.ntmps15
    go_wp2_with (refine wpList_make_full _ rfl _ _ 51 rfl B 5 i0 (.int .u8 0) 1 Try.underlying51 hi hz0 hz1 .i64 .i64 _ _ k rfl rfl (by have := HK0.out; omega) (by have := HK0.out; omega) (by rw [hz2]; omega) (by unfold maxLen; omega) (by rw [HB.out]; exact Nat.le_refl _) ?_)
    intro w1 hown1 hgrow
    have hb1 : Below B w w1 := (Below.refl B w).grown hgrow (by rw [HB.out]; exact Nat.le_refl _) (fun g hg => by cases hg)
    clear hgrow
    simp only [Value.cells, Nat.mul_one, made_zero] at hown1
    go_wp2
    obtain ⟨g, hg0⟩ : ∃ g, w.heap.size = g := ⟨_, rfl⟩
    rw [hg0] at hown1
    rw [hg0]
    obtain rfl : g = B := by rw [← hg0, HB.out]
    have hb := own_buf hown1
    have hlt : 0 < k → g < w1.heap.size := fun h0 => hb.lt (by unfold zerosB; simpa using h0)
    have HD := H.out.fr (Fr.of_below (S := fun _ => False) (by rw [HB.out]; exact hb1)) id
    have HF : Fr (· = P) w w1 := Fr.of_below (by rw [HB.out]; exact hb1)
    clear hown1 hb1 c0 c1 c2 c3
    refine wp_region_still_tail 9 (by kernel_rfl) (by kernel_rfl) ?_
    change wpStill _ _ w1.drew (fun a' => wpList _ _ _ _ a' w1.drew) _ _
    have HD2 := HD.fr (S := fun _ => False) ((Fr.refl _ _).drew) id
    have HF2 := HF.drew
    have hb2 : Buf w1.drew g (zerosB k) := ⟨hb.cell, hb.frozen⟩
    have hlt2 : 0 < k → g < w1.drew.heap.size := hlt
    clear HD HF hb hlt hg0
    generalize w1.drew = w2 at *
    obtain ⟨c0, c1, c2, c3⟩ := HD2.cells
    have hsl := ring_from (P := P) f hf
    simp only [List.take_succ_cons, List.take_zero, List.drop_succ_cons, List.drop_zero]
    repeat still_step
    refine wpStill_nil ?_
    obtain ⟨m1, hm1⟩ : ∃ m : Bs, m = (List.range (min k (128 - f))).map fun i => r (f + i) := ⟨_, rfl⟩
    have hl1 : m1.length = min k (128 - f) := by rw [hm1]; simp
    have hzl : (zerosB k).length = k := by simp [zerosB]
    have Hc1 := Lib.hid (show (m1.map cellB).length = Nat.min (128 - f) k by rw [List.length_map, hl1]; exact Nat.min_comm _ _)
    have Hs1 := Lib.hid (show 0 < (m1.map cellB).length → some (⟨g, 0, none⟩ : Addr) = some ⟨g, 0, none⟩ ∧ ∃ ad, some (⟨P, 2 + f, none⟩ : Addr) = some ad ∧ ∀ j v, (m1.map cellB)[j]? = some v → w2.cell? (ad.add j) = some v from fun _ => ⟨rfl, _, rfl, fun j v hv => by
      have hj := (List.getElem?_eq_some_iff.1 hv).1
      rw [List.length_map, hl1] at hj
      rw [Addr.add_lit, Nat.add_assoc, HD2.byte (j := f + j) (by omega), ← hv, hm1, List.getElem?_map, List.getElem?_map, List.getElem?_range (by omega)]
      rfl⟩)
    have Hd1 := Lib.hid (fun j (hj : j < (m1.map cellB).length) => (show (w2.cell? ⟨g, 0 + j, none⟩).isSome = true by rw [Nat.zero_add]; exact hb2.has j (by rw [hzl]; simp at hj; omega)))
    have Hf1 := Lib.hid (fun j (_ : j < (m1.map cellB).length) => hb2.frozen (0 + j))
    have Ho1 := Lib.hid (show ∀ v ∈ m1.map cellB, v.oneCell' = true from fun v hv => by obtain ⟨x, _, rfl⟩ := List.mem_map.1 hv; rfl)
    have Hm1 := Lib.hid hm1
    have Hl1 := Lib.hid hl1
    have Hzl := Lib.hid hzl
    clear hm1 hl1 hzl
    go_wp2_with (refine wpList_copy_set rfl _ _ _ _ rfl 5 Try.underlying51 h7 _ _ _ _ _ _ rfl rfl g 0 (m1.map cellB) Hc1.out Hs1.out Hd1.out Hf1.out Ho1.out ?_; rw [List.length_map])
    have HD3 := HD2.fr (Fr.setCells (S := (· = g)) (g := g) (.inl rfl) (m1.map cellB) 0 w2 (Fr.refl _ _)) (by omega)
    have HF3 := Fr.setCells (S := (· = P)) (.inr (by rw [HB.out]; exact Nat.le_refl _)) (m1.map cellB) 0 w2 HF2
    have hb3 := hb2.put 0 m1 (by rw [Hl1.out, Hzl.out]; omega)
    have hlt3 : 0 < k → g < (w2.setCells g 0 (m1.map cellB)).heap.size := fun h => Nat.lt_of_lt_of_le (hlt2 h) (Fr.setCells (S := (· = g)) (g := g) (.inl rfl) (m1.map cellB) 0 w2 (Fr.refl _ _)).size
    clear HD2 HF2 hb2 hlt2 Hs1 Hd1 Hf1 Hc1 Ho1 c0 c1 c2 c3 hsl
    generalize w2.setCells g 0 (m1.map cellB) = w3 at *
    refine wp_region_still_tail 7 (by kernel_rfl) (by kernel_rfl) ?_
    change wpStill _ _ w3.drew (fun a' => wpList _ _ _ _ a' w3.drew) _ _
    have HD := HD3.fr (S := fun _ => False) ((Fr.refl _ _).drew) id
    have HF := HF3.drew
    have hb : Buf w3.drew g (over (zerosB k) 0 m1) := ⟨hb3.cell, hb3.frozen⟩
    have hlt : 0 < k → g < w3.drew.heap.size := hlt3
    clear HD3 HF3 hb3 hlt3
    generalize w3.drew = w4 at *
    obtain ⟨k1, hk1⟩ : ∃ k1, k1 = m1.length := ⟨_, rfl⟩
    have Hk1 := Lib.hid hk1
    have hk1k : k1 ≤ k := by rw [hk1, Hl1.out]; exact Nat.min_le_left _ _
    rw [← hk1]
    clear hk1
    obtain ⟨dp, hdp, hdp2⟩ := cut_from g hk1k
    have hsl := ring_all (P := P)
    simp only [List.take_succ_cons, List.take_zero, List.drop_succ_cons, List.drop_zero]
    repeat still_step
    refine wpStill_nil ?_
    obtain ⟨m2, hm2⟩ : ∃ m : Bs, m = (List.range (k - k1)).map r := ⟨_, rfl⟩
    have hl2 : m2.length = k - k1 := by rw [hm2]; simp
    have hol : (over (zerosB k) 0 m1).length = k := by rw [over_len _ _ _ (by rw [Hl1.out, Hzl.out]; omega), Hzl.out]
    have Hc1 := Lib.hid (show (m2.map cellB).length = Nat.min 128 (k - k1) by rw [List.length_map, hl2]; exact (Nat.min_eq_right (by omega)).symm)
    have Hs1 := Lib.hid (show 0 < (m2.map cellB).length → dp = some ⟨g, k1, none⟩ ∧ ∃ ad, some (⟨P, 2, none⟩ : Addr) = some ad ∧ ∀ j v, (m2.map cellB)[j]? = some v → w4.cell? (ad.add j) = some v from fun h0 => ⟨hdp2 (by rw [List.length_map, hl2] at h0; omega), _, rfl, fun j v hv => by
      have hj := (List.getElem?_eq_some_iff.1 hv).1
      rw [List.length_map, hl2] at hj
      rw [Addr.add_lit, HD.byte (j := j) (by omega), ← hv, hm2, List.getElem?_map, List.getElem?_map, List.getElem?_range (by omega)]
      rfl⟩)
    have Hd1 := Lib.hid (fun j (hj : j < (m2.map cellB).length) => (show (w4.cell? ⟨g, k1 + j, none⟩).isSome = true from hb.has _ (by rw [hol]; rw [List.length_map, hl2] at hj; omega)))
    have Hf1 := Lib.hid (fun j (_ : j < (m2.map cellB).length) => hb.frozen (k1 + j))
    have Ho1 := Lib.hid (show ∀ v ∈ m2.map cellB, v.oneCell' = true from fun v hv => by obtain ⟨x, _, rfl⟩ := List.mem_map.1 hv; rfl)
    have HD5 := Lib.hid (HD.fr (Fr.setCells (S := (· = g)) (g := g) (.inl rfl) (m2.map cellB) k1 w4 (Fr.refl _ _)) (by omega))
    have HF5 := Lib.hid (Fr.setCells (S := (· = P)) (.inr (by rw [HB.out]; exact Nat.le_refl _)) (m2.map cellB) k1 w4 HF)
    have hb5 : Buf (w4.setCells g k1 (m2.map cellB)) g (ringL r f k) := by
      have e : over (over (zerosB k) 0 m1) k1 m2 = ringL r f k := by
        rw [Hk1.out, over_two m1 m2 (zerosB k) (by rw [Hzl.out, hl2, ← Hk1.out]; omega), ring_two r f k hf (by omega), ← Hm1.out, hm2, Hk1.out, Hl1.out]
      have h5 := hb.put k1 m2 (by rw [hol, hl2]; omega)
      rw [e] at h5
      exact h5
    have Hb5 := Lib.hid hb5
    have Hlt5 := Lib.hid (show 0 < k → g < (w4.setCells g k1 (m2.map cellB)).heap.size from fun h => Nat.lt_of_lt_of_le (hlt h) (Fr.setCells (S := (· = g)) (g := g) (.inl rfl) (m2.map cellB) k1 w4 (Fr.refl _ _)).size)
    have hd2 : (n : Int) - (k : Int) = (d : Int) := by have := Hd.out; omega
    clear HD HF hb hlt hm2 hl2 hol hdp hdp2 hsl hb5
    go_wp2_with (first
      | (refine wpList_copy_set rfl _ _ _ _ rfl 5 Try.underlying51 h7 _ _ _ _ _ _ rfl rfl g k1 (m2.map cellB) Hc1.out Hs1.out Hd1.out Hf1.out Ho1.out ?_; clear Hc1 Hs1 Hd1 Hf1 Ho1; generalize w4.setCells g k1 (m2.map cellB) = w5 at *; obtain ⟨c0, c1, c2, c3⟩ := HD5.out.cells; have f2 := HD5.out.frozen 130; have f3 := HD5.out.frozen 131)
      | (go_at_call 19; refine (HP _ HD5.out).mono ?_; rintro e w' ⟨rfl, rfl⟩))
    have HD6 := (HD5.out.setFirst q hq).setLength d (by have := Hd.out; omega)
    have HF6 := (HF5.out.trans (Fr.one _ _ _ _)).trans (Fr.one (w5.setCell ⟨P, 130, none⟩ (.int .i64 (q : Int))) P 131 (.int .i64 (d : Int)))
    have hF : Fr (· = P) w5 ((w5.setCell ⟨P, 130, none⟩ (.int .i64 (q : Int))).setCell ⟨P, 131, none⟩ (.int .i64 (d : Int))) := (Fr.one _ _ _ _).trans (Fr.one _ _ _ _)
    have hb6 : ∀ (j : Nat) (b : UInt8), (ringL r f k)[j]? = some b → ((w5.setCell ⟨P, 130, none⟩ (.int .i64 (q : Int))).setCell ⟨P, 131, none⟩ (.int .i64 (d : Int))).cell? ⟨g, j, none⟩ = some (cellB b) := fun j b hj => hF.cell (Hb5.out.cell j b hj) (by omega)
    clear c0 c1 c2 c3 f2 f3 hF
    generalize (w5.setCell ⟨P, 130, none⟩ (.int .i64 (q : Int))).setCell ⟨P, 131, none⟩ (.int .i64 (d : Int)) = w6 at *
    obtain ⟨-, c1, -, c3⟩ := HD6.cells
    have hcv : ∀ nq, (convert 51 9 (.slice (some ⟨g, 0, none⟩) k k)).run Try.prog (w6.drewN nq) = .ok (.string ⟨(ringL r f k).toArray⟩) (w6.drewN nq) := fun nq => by
      have := text_of (W := w6.drewN nq) hb6 k
      rw [ring_len] at this
      exact this
    rw [← HT.out] at hcv
    have HD7 := Lib.hid HD6
    have HF7 := Lib.hid HF6
    clear hb6 HD6 HF6 hd2
    by_cases hd0 : d = 0
    · subst hd0
      by_cases hw0 : wr = 0
      · subst hw0
        go_quiet (fail)
        go_wp2
        go_ret2
        exact ⟨ret_pair rfl (by simp [*]), HD7.out.fr (S := fun _ => False) ((Fr.refl _ _).drewN _) id, HF7.out.drewN _⟩
      · have hw1 : ((wr : Int) == 0) = false := by simp; omega
        have hw2 : decide (wr = 0) = false := by simp [hw0]
        clear hw0
        go_quiet (fail)
        go_wp2
        go_ret2
        exact ⟨ret_pair rfl (by simp [*]), HD7.out.fr (S := fun _ => False) ((Fr.refl _ _).drewN _) id, HF7.out.drewN _⟩
    · have hw1 : ((d : Int) == 0) = false := by simp; omega
      have hw2 : decide (d = 0) = false := by simp [hd0]
      clear hd0
      go_quiet (fail)
      go_wp2
      go_ret2
      exact ⟨ret_pair rfl (by simp [*]), HD7.out.fr (S := fun _ => False) ((Fr.refl _ _).drewN _) id, HF7.out.drewN _⟩
  · have h3 : 0 ≤ N := by omega
    have HK0 := Lib.hid hk0
    clear hk0
    go_enter Try.func15, Try.ntmps15
    go_wp2_with (refine wpList_make_full _ rfl _ _ 51 rfl B 5 i0 (.int .u8 0) 1 Try.underlying51 hi hz0 hz1 .i64 .i64 _ _ k rfl rfl (by have := HK0.out; omega) (by have := HK0.out; omega) (by rw [hz2]; omega) (by unfold maxLen; omega) (by rw [HB.out]; exact Nat.le_refl _) ?_)
    intro w1 hown1 hgrow
    have hb1 : Below B w w1 := (Below.refl B w).grown hgrow (by rw [HB.out]; exact Nat.le_refl _) (fun g hg => by cases hg)
    clear hgrow
    simp only [Value.cells, Nat.mul_one, made_zero] at hown1
    go_wp2
    obtain ⟨g, hg0⟩ : ∃ g, w.heap.size = g := ⟨_, rfl⟩
    rw [hg0] at hown1
    rw [hg0]
    obtain rfl : g = B := by rw [← hg0, HB.out]
    have hb := own_buf hown1
    have hlt : 0 < k → g < w1.heap.size := fun h0 => hb.lt (by unfold zerosB; simpa using h0)
    have HD := H.out.fr (Fr.of_below (S := fun _ => False) (by rw [HB.out]; exact hb1)) id
    have HF : Fr (· = P) w w1 := Fr.of_below (by rw [HB.out]; exact hb1)
    clear hown1 hb1 c0 c1 c2 c3
    refine wp_region_still_tail 9 (by kernel_rfl) (by kernel_rfl) ?_
    change wpStill _ _ w1.drew (fun a' => wpList _ _ _ _ a' w1.drew) _ _
    have HD2 := HD.fr (S := fun _ => False) ((Fr.refl _ _).drew) id
    have HF2 := HF.drew
    have hb2 : Buf w1.drew g (zerosB k) := ⟨hb.cell, hb.frozen⟩
    have hlt2 : 0 < k → g < w1.drew.heap.size := hlt
    clear HD HF hb hlt hg0
    generalize w1.drew = w2 at *
    obtain ⟨c0, c1, c2, c3⟩ := HD2.cells
    have hsl := ring_from (P := P) f hf
    simp only [List.take_succ_cons, List.take_zero, List.drop_succ_cons, List.drop_zero]
    repeat still_step
    refine wpStill_nil ?_
    obtain ⟨m1, hm1⟩ : ∃ m : Bs, m = (List.range (min k (128 - f))).map fun i => r (f + i) := ⟨_, rfl⟩
    have hl1 : m1.length = min k (128 - f) := by rw [hm1]; simp
    have hzl : (zerosB k).length = k := by simp [zerosB]
    have Hc1 := Lib.hid (show (m1.map cellB).length = Nat.min (128 - f) k by rw [List.length_map, hl1]; exact Nat.min_comm _ _)
    have Hs1 := Lib.hid (show 0 < (m1.map cellB).length → some (⟨g, 0, none⟩ : Addr) = some ⟨g, 0, none⟩ ∧ ∃ ad, some (⟨P, 2 + f, none⟩ : Addr) = some ad ∧ ∀ j v, (m1.map cellB)[j]? = some v → w2.cell? (ad.add j) = some v from fun _ => ⟨rfl, _, rfl, fun j v hv => by
      have hj := (List.getElem?_eq_some_iff.1 hv).1
      rw [List.length_map, hl1] at hj
      rw [Addr.add_lit, Nat.add_assoc, HD2.byte (j := f + j) (by omega), ← hv, hm1, List.getElem?_map, List.getElem?_map, List.getElem?_range (by omega)]
      rfl⟩)
    have Hd1 := Lib.hid (fun j (hj : j < (m1.map cellB).length) => (show (w2.cell? ⟨g, 0 + j, none⟩).isSome = true by rw [Nat.zero_add]; exact hb2.has j (by rw [hzl]; simp at hj; omega)))
    have Hf1 := Lib.hid (fun j (_ : j < (m1.map cellB).length) => hb2.frozen (0 + j))
    have Ho1 := Lib.hid (show ∀ v ∈ m1.map cellB, v.oneCell' = true from fun v hv => by obtain ⟨x, _, rfl⟩ := List.mem_map.1 hv; rfl)
    have Hm1 := Lib.hid hm1
    have Hl1 := Lib.hid hl1
    have Hzl := Lib.hid hzl
    clear hm1 hl1 hzl
    go_wp2_with (refine wpList_copy_set rfl _ _ _ _ rfl 5 Try.underlying51 h7 _ _ _ _ _ _ rfl rfl g 0 (m1.map cellB) Hc1.out Hs1.out Hd1.out Hf1.out Ho1.out ?_; rw [List.length_map])
    have HD3 := HD2.fr (Fr.setCells (S := (· = g)) (g := g) (.inl rfl) (m1.map cellB) 0 w2 (Fr.refl _ _)) (by omega)
    have HF3 := Fr.setCells (S := (· = P)) (.inr (by rw [HB.out]; exact Nat.le_refl _)) (m1.map cellB) 0 w2 HF2
    have hb3 := hb2.put 0 m1 (by rw [Hl1.out, Hzl.out]; omega)
    have hlt3 : 0 < k → g < (w2.setCells g 0 (m1.map cellB)).heap.size := fun h => Nat.lt_of_lt_of_le (hlt2 h) (Fr.setCells (S := (· = g)) (g := g) (.inl rfl) (m1.map cellB) 0 w2 (Fr.refl _ _)).size
    clear HD2 HF2 hb2 hlt2 Hs1 Hd1 Hf1 Hc1 Ho1 c0 c1 c2 c3 hsl
    generalize w2.setCells g 0 (m1.map cellB) = w3 at *
    refine wp_region_still_tail 7 (by kernel_rfl) (by kernel_rfl) ?_
    change wpStill _ _ w3.drew (fun a' => wpList _ _ _ _ a' w3.drew) _ _
    have HD := HD3.fr (S := fun _ => False) ((Fr.refl _ _).drew) id
    have HF := HF3.drew
    have hb : Buf w3.drew g (over (zerosB k) 0 m1) := ⟨hb3.cell, hb3.frozen⟩
    have hlt : 0 < k → g < w3.drew.heap.size := hlt3
    clear HD3 HF3 hb3 hlt3
    generalize w3.drew = w4 at *
    obtain ⟨k1, hk1⟩ : ∃ k1, k1 = m1.length := ⟨_, rfl⟩
    have Hk1 := Lib.hid hk1
    have hk1k : k1 ≤ k := by rw [hk1, Hl1.out]; exact Nat.min_le_left _ _
    rw [← hk1]
    clear hk1
    obtain ⟨dp, hdp, hdp2⟩ := cut_from g hk1k
    have hsl := ring_all (P := P)
    simp only [List.take_succ_cons, List.take_zero, List.drop_succ_cons, List.drop_zero]
    repeat still_step
    refine wpStill_nil ?_
    obtain ⟨m2, hm2⟩ : ∃ m : Bs, m = (List.range (k - k1)).map r := ⟨_, rfl⟩
    have hl2 : m2.length = k - k1 := by rw [hm2]; simp
    have hol : (over (zerosB k) 0 m1).length = k := by rw [over_len _ _ _ (by rw [Hl1.out, Hzl.out]; omega), Hzl.out]
    have Hc1 := Lib.hid (show (m2.map cellB).length = Nat.min 128 (k - k1) by rw [List.length_map, hl2]; exact (Nat.min_eq_right (by omega)).symm)
    have Hs1 := Lib.hid (show 0 < (m2.map cellB).length → dp = some ⟨g, k1, none⟩ ∧ ∃ ad, some (⟨P, 2, none⟩ : Addr) = some ad ∧ ∀ j v, (m2.map cellB)[j]? = some v → w4.cell? (ad.add j) = some v from fun h0 => ⟨hdp2 (by rw [List.length_map, hl2] at h0; omega), _, rfl, fun j v hv => by
      have hj := (List.getElem?_eq_some_iff.1 hv).1
      rw [List.length_map, hl2] at hj
      rw [Addr.add_lit, HD.byte (j := j) (by omega), ← hv, hm2, List.getElem?_map, List.getElem?_map, List.getElem?_range (by omega)]
      rfl⟩)
    have Hd1 := Lib.hid (fun j (hj : j < (m2.map cellB).length) => (show (w4.cell? ⟨g, k1 + j, none⟩).isSome = true from hb.has _ (by rw [hol]; rw [List.length_map, hl2] at hj; omega)))
    have Hf1 := Lib.hid (fun j (_ : j < (m2.map cellB).length) => hb.frozen (k1 + j))
    have Ho1 := Lib.hid (show ∀ v ∈ m2.map cellB, v.oneCell' = true from fun v hv => by obtain ⟨x, _, rfl⟩ := List.mem_map.1 hv; rfl)
    have HD5 := Lib.hid (HD.fr (Fr.setCells (S := (· = g)) (g := g) (.inl rfl) (m2.map cellB) k1 w4 (Fr.refl _ _)) (by omega))
    have HF5 := Lib.hid (Fr.setCells (S := (· = P)) (.inr (by rw [HB.out]; exact Nat.le_refl _)) (m2.map cellB) k1 w4 HF)
    have hb5 : Buf (w4.setCells g k1 (m2.map cellB)) g (ringL r f k) := by
      have e : over (over (zerosB k) 0 m1) k1 m2 = ringL r f k := by
        rw [Hk1.out, over_two m1 m2 (zerosB k) (by rw [Hzl.out, hl2, ← Hk1.out]; omega), ring_two r f k hf (by omega), ← Hm1.out, hm2, Hk1.out, Hl1.out]
      have h5 := hb.put k1 m2 (by rw [hol, hl2]; omega)
      rw [e] at h5
      exact h5
    have Hb5 := Lib.hid hb5
    have Hlt5 := Lib.hid (show 0 < k → g < (w4.setCells g k1 (m2.map cellB)).heap.size from fun h => Nat.lt_of_lt_of_le (hlt h) (Fr.setCells (S := (· = g)) (g := g) (.inl rfl) (m2.map cellB) k1 w4 (Fr.refl _ _)).size)
    have hd2 : (n : Int) - (k : Int) = (d : Int) := by have := Hd.out; omega
    clear HD HF hb hlt hm2 hl2 hol hdp hdp2 hsl hb5
    go_wp2_with (first
      | (refine wpList_copy_set rfl _ _ _ _ rfl 5 Try.underlying51 h7 _ _ _ _ _ _ rfl rfl g k1 (m2.map cellB) Hc1.out Hs1.out Hd1.out Hf1.out Ho1.out ?_; clear Hc1 Hs1 Hd1 Hf1 Ho1; generalize w4.setCells g k1 (m2.map cellB) = w5 at *; obtain ⟨c0, c1, c2, c3⟩ := HD5.out.cells; have f2 := HD5.out.frozen 130; have f3 := HD5.out.frozen 131)
      | (go_at_call 19; refine (HP _ HD5.out).mono ?_; rintro e w' ⟨rfl, rfl⟩))
    have HD6 := (HD5.out.setFirst q hq).setLength d (by have := Hd.out; omega)
    have HF6 := (HF5.out.trans (Fr.one _ _ _ _)).trans (Fr.one (w5.setCell ⟨P, 130, none⟩ (.int .i64 (q : Int))) P 131 (.int .i64 (d : Int)))
    have hF : Fr (· = P) w5 ((w5.setCell ⟨P, 130, none⟩ (.int .i64 (q : Int))).setCell ⟨P, 131, none⟩ (.int .i64 (d : Int))) := (Fr.one _ _ _ _).trans (Fr.one _ _ _ _)
    have hb6 : ∀ (j : Nat) (b : UInt8), (ringL r f k)[j]? = some b → ((w5.setCell ⟨P, 130, none⟩ (.int .i64 (q : Int))).setCell ⟨P, 131, none⟩ (.int .i64 (d : Int))).cell? ⟨g, j, none⟩ = some (cellB b) := fun j b hj => hF.cell (Hb5.out.cell j b hj) (by omega)
    clear c0 c1 c2 c3 f2 f3 hF
    generalize (w5.setCell ⟨P, 130, none⟩ (.int .i64 (q : Int))).setCell ⟨P, 131, none⟩ (.int .i64 (d : Int)) = w6 at *
    obtain ⟨-, c1, -, c3⟩ := HD6.cells
    have hcv : ∀ nq, (convert 51 9 (.slice (some ⟨g, 0, none⟩) k k)).run Try.prog (w6.drewN nq) = .ok (.string ⟨(ringL r f k).toArray⟩) (w6.drewN nq) := fun nq => by
      have := text_of (W := w6.drewN nq) hb6 k
      rw [ring_len] at this
      exact this
    rw [← HT.out] at hcv
    have HD7 := Lib.hid HD6
    have HF7 := Lib.hid HF6
    clear hb6 HD6 HF6 hd2
    by_cases hd0 : d = 0
    · subst hd0
      by_cases hw0 : wr = 0
      · subst hw0
        go_quiet (fail)
        go_wp2
        go_ret2
        exact ⟨ret_pair rfl (by simp [*]), HD7.out.fr (S := fun _ => False) ((Fr.refl _ _).drewN _) id, HF7.out.drewN _⟩
      · have hw1 : ((wr : Int) == 0) = false := by simp; omega
        have hw2 : decide (wr = 0) = false := by simp [hw0]
        clear hw0
        go_quiet (fail)
        go_wp2
        go_ret2
        exact ⟨ret_pair rfl (by simp [*]), HD7.out.fr (S := fun _ => False) ((Fr.refl _ _).drewN _) id, HF7.out.drewN _⟩
    · have hw1 : ((d : Int) == 0) = false := by simp; omega
      have hw2 : decide (d = 0) = false := by simp [hd0]
      clear hd0
      go_quiet (fail)
      go_wp2
      go_ret2
      exact ⟨ret_pair rfl (by simp [*]), HD7.out.fr (S := fun _ => False) ((Fr.refl _ _).drewN _) id, HF7.out.drewN _⟩
  · have h3 : 0 ≤ N := by omega
    have HK0 := Lib.hid hk0
    clear hk0
    go_enter Try.func15, Try.ntmps15
    go_wp2_with (refine wpList_make_full _ rfl _ _ 51 rfl B 5 i0 (.int .u8 0) 1 Try.underlying51 hi hz0 hz1 .i64 .i64 _ _ k rfl rfl (by have := HK0.out; omega) (by have := HK0.out; omega) (by rw [hz2]; omega) (by unfold maxLen; omega) (by rw [HB.out]; exact Nat.le_refl _) ?_)
    intro w1 hown1 hgrow
    have hb1 : Below B w w1 := (Below.refl B w).grown hgrow (by rw [HB.out]; exact Nat.le_refl _) (fun g hg => by cases hg)
    clear hgrow
    simp only [Value.cells, Nat.mul_one, made_zero] at hown1
    go_wp2
    obtain ⟨g, hg0⟩ : ∃ g, w.heap.size = g := ⟨_, rfl⟩
    rw [hg0] at hown1
    rw [hg0]
    obtain rfl : g = B := by rw [← hg0, HB.out]
    have hb := own_buf hown1
    have hlt : 0 < k → g < w1.heap.size := fun h0 => hb.lt (by unfold zerosB; simpa using h0)
    have HD := H.out.fr (Fr.of_below (S := fun _ => False) (by rw [HB.out]; exact hb1)) id
    have HF : Fr (· = P) w w1 := Fr.of_below (by rw [HB.out]; exact hb1)
    clear hown1 hb1 c0 c1 c2 c3
    refine wp_region_still_tail 9 (by kernel_rfl) (by kernel_rfl) ?_
    change wpStill _ _ w1.drew (fun a' => wpList _ _ _ _ a' w1.drew) _ _
    have HD2 := HD.fr (S := fun _ => False) ((Fr.refl _ _).drew) id
    have HF2 := HF.drew
    have hb2 : Buf w1.drew g (zerosB k) := ⟨hb.cell, hb.frozen⟩
    have hlt2 : 0 < k → g < w1.drew.heap.size := hlt
    clear HD HF hb hlt hg0
    generalize w1.drew = w2 at *
    obtain ⟨c0, c1, c2, c3⟩ := HD2.cells
    have hsl := ring_from (P := P) f hf
    simp only [List.take_succ_cons, List.take_zero, List.drop_succ_cons, List.drop_zero]
    repeat still_step
    refine wpStill_nil ?_
    obtain ⟨m1, hm1⟩ : ∃ m : Bs, m = (List.range (min k (128 - f))).map fun i => r (f + i) := ⟨_, rfl⟩
    have hl1 : m1.length = min k (128 - f) := by rw [hm1]; simp
    have hzl : (zerosB k).length = k := by simp [zerosB]
    have Hc1 := Lib.hid (show (m1.map cellB).length = Nat.min (128 - f) k by rw [List.length_map, hl1]; exact Nat.min_comm _ _)
    have Hs1 := Lib.hid (show 0 < (m1.map cellB).length → some (⟨g, 0, none⟩ : Addr) = some ⟨g, 0, none⟩ ∧ ∃ ad, some (⟨P, 2 + f, none⟩ : Addr) = some ad ∧ ∀ j v, (m1.map cellB)[j]? = some v → w2.cell? (ad.add j) = some v from fun _ => ⟨rfl, _, rfl, fun j v hv => by
      have hj := (List.getElem?_eq_some_iff.1 hv).1
      rw [List.length_map, hl1] at hj
      rw [Addr.add_lit, Nat.add_assoc, HD2.byte (j := f + j) (by omega), ← hv, hm1, List.getElem?_map, List.getElem?_map, List.getElem?_range (by omega)]
      rfl⟩)
    have Hd1 := Lib.hid (fun j (hj : j < (m1.map cellB).length) => (show (w2.cell? ⟨g, 0 + j, none⟩).isSome = true by rw [Nat.zero_add]; exact hb2.has j (by rw [hzl]; simp at hj; omega)))
    have Hf1 := Lib.hid (fun j (_ : j < (m1.map cellB).length) => hb2.frozen (0 + j))
    have Ho1 := Lib.hid (show ∀ v ∈ m1.map cellB, v.oneCell' = true from fun v hv => by obtain ⟨x, _, rfl⟩ := List.mem_map.1 hv; rfl)
    have Hm1 := Lib.hid hm1
    have Hl1 := Lib.hid hl1
    have Hzl := Lib.hid hzl
    clear hm1 hl1 hzl
    go_wp2_with (refine wpList_copy_set rfl _ _ _ _ rfl 5 Try.underlying51 h7 _ _ _ _ _ _ rfl rfl g 0 (m1.map cellB) Hc1.out Hs1.out Hd1.out Hf1.out Ho1.out ?_; rw [List.length_map])
    have HD3 := HD2.fr (Fr.setCells (S := (· = g)) (g := g) (.inl rfl) (m1.map cellB) 0 w2 (Fr.refl _ _)) (by omega)
    have HF3 := Fr.setCells (S := (· = P)) (.inr (by rw [HB.out]; exact Nat.le_refl _)) (m1.map cellB) 0 w2 HF2
    have hb3 := hb2.put 0 m1 (by rw [Hl1.out, Hzl.out]; omega)
    have hlt3 : 0 < k → g < (w2.setCells g 0 (m1.map cellB)).heap.size := fun h => Nat.lt_of_lt_of_le (hlt2 h) (Fr.setCells (S := (· = g)) (g := g) (.inl rfl) (m1.map cellB) 0 w2 (Fr.refl _ _)).size
    clear HD2 HF2 hb2 hlt2 Hs1 Hd1 Hf1 Hc1 Ho1 c0 c1 c2 c3 hsl
    generalize w2.setCells g 0 (m1.map cellB) = w3 at *
    refine wp_region_still_tail 7 (by kernel_rfl) (by kernel_rfl) ?_
    change wpStill _ _ w3.drew (fun a' => wpList _ _ _ _ a' w3.drew) _ _
    have HD := HD3.fr (S := fun _ => False) ((Fr.refl _ _).drew) id
    have HF := HF3.drew
    have hb : Buf w3.drew g (over (zerosB k) 0 m1) := ⟨hb3.cell, hb3.frozen⟩
    have hlt : 0 < k → g < w3.drew.heap.size := hlt3
    clear HD3 HF3 hb3 hlt3
    generalize w3.drew = w4 at *
    obtain ⟨k1, hk1⟩ : ∃ k1, k1 = m1.length := ⟨_, rfl⟩
    have Hk1 := Lib.hid hk1
    have hk1k : k1 ≤ k := by rw [hk1, Hl1.out]; exact Nat.min_le_left _ _
    rw [← hk1]
    clear hk1
    obtain ⟨dp, hdp, hdp2⟩ := cut_from g hk1k
    have hsl := ring_all (P := P)
    simp only [List.take_succ_cons, List.take_zero, List.drop_succ_cons, List.drop_zero]
    repeat still_step
    refine wpStill_nil ?_
    obtain ⟨m2, hm2⟩ : ∃ m : Bs, m = (List.range (k - k1)).map r := ⟨_, rfl⟩
    have hl2 : m2.length = k - k1 := by rw [hm2]; simp
    have hol : (over (zerosB k) 0 m1).length = k := by rw [over_len _ _ _ (by rw [Hl1.out, Hzl.out]; omega), Hzl.out]
    have Hc1 := Lib.hid (show (m2.map cellB).length = Nat.min 128 (k - k1) by rw [List.length_map, hl2]; exact (Nat.min_eq_right (by omega)).symm)
    have Hs1 := Lib.hid (show 0 < (m2.map cellB).length → dp = some ⟨g, k1, none⟩ ∧ ∃ ad, some (⟨P, 2, none⟩ : Addr) = some ad ∧ ∀ j v, (m2.map cellB)[j]? = some v → w4.cell? (ad.add j) = some v from fun h0 => ⟨hdp2 (by rw [List.length_map, hl2] at h0; omega), _, rfl, fun j v hv => by
      have hj := (List.getElem?_eq_some_iff.1 hv).1
      rw [List.length_map, hl2] at hj
      rw [Addr.add_lit, HD.byte (j := j) (by omega), ← hv, hm2, List.getElem?_map, List.getElem?_map, List.getElem?_range (by omega)]
      rfl⟩)
    have Hd1 := Lib.hid (fun j (hj : j < (m2.map cellB).length) => (show (w4.cell? ⟨g, k1 + j, none⟩).isSome = true from hb.has _ (by rw [hol]; rw [List.length_map, hl2] at hj; omega)))
    have Hf1 := Lib.hid (fun j (_ : j < (m2.map cellB).length) => hb.frozen (k1 + j))
    have Ho1 := Lib.hid (show ∀ v ∈ m2.map cellB, v.oneCell' = true from fun v hv => by obtain ⟨x, _, rfl⟩ := List.mem_map.1 hv; rfl)
    have HD5 := Lib.hid (HD.fr (Fr.setCells (S := (· = g)) (g := g) (.inl rfl) (m2.map cellB) k1 w4 (Fr.refl _ _)) (by omega))
    have HF5 := Lib.hid (Fr.setCells (S := (· = P)) (.inr (by rw [HB.out]; exact Nat.le_refl _)) (m2.map cellB) k1 w4 HF)
    have hb5 : Buf (w4.setCells g k1 (m2.map cellB)) g (ringL r f k) := by
      have e : over (over (zerosB k) 0 m1) k1 m2 = ringL r f k := by
        rw [Hk1.out, over_two m1 m2 (zerosB k) (by rw [Hzl.out, hl2, ← Hk1.out]; omega), ring_two r f k hf (by omega), ← Hm1.out, hm2, Hk1.out, Hl1.out]
      have h5 := hb.put k1 m2 (by rw [hol, hl2]; omega)
      rw [e] at h5
      exact h5
    have Hb5 := Lib.hid hb5
    have Hlt5 := Lib.hid (show 0 < k → g < (w4.setCells g k1 (m2.map cellB)).heap.size from fun h => Nat.lt_of_lt_of_le (hlt h) (Fr.setCells (S := (· = g)) (g := g) (.inl rfl) (m2.map cellB) k1 w4 (Fr.refl _ _)).size)
    have hd2 : (n : Int) - (k : Int) = (d : Int) := by have := Hd.out; omega
    clear HD HF hb hlt hm2 hl2 hol hdp hdp2 hsl hb5
    go_wp2_with (first
      | (refine wpList_copy_set rfl _ _ _ _ rfl 5 Try.underlying51 h7 _ _ _ _ _ _ rfl rfl g k1 (m2.map cellB) Hc1.out Hs1.out Hd1.out Hf1.out Ho1.out ?_; clear Hc1 Hs1 Hd1 Hf1 Ho1; generalize w4.setCells g k1 (m2.map cellB) = w5 at *; obtain ⟨c0, c1, c2, c3⟩ := HD5.out.cells; have f2 := HD5.out.frozen 130; have f3 := HD5.out.frozen 131)
      | (go_at_call 19; refine (HP _ HD5.out).mono ?_; rintro e w' ⟨rfl, rfl⟩))
    have HD6 := (HD5.out.setFirst q hq).setLength d (by have := Hd.out; omega)
    have HF6 := (HF5.out.trans (Fr.one _ _ _ _)).trans (Fr.one (w5.setCell ⟨P, 130, none⟩ (.int .i64 (q : Int))) P 131 (.int .i64 (d : Int)))
    have hF : Fr (· = P) w5 ((w5.setCell ⟨P, 130, none⟩ (.int .i64 (q : Int))).setCell ⟨P, 131, none⟩ (.int .i64 (d : Int))) := (Fr.one _ _ _ _).trans (Fr.one _ _ _ _)
    have hb6 : ∀ (j : Nat) (b : UInt8), (ringL r f k)[j]? = some b → ((w5.setCell ⟨P, 130, none⟩ (.int .i64 (q : Int))).setCell ⟨P, 131, none⟩ (.int .i64 (d : Int))).cell? ⟨g, j, none⟩ = some (cellB b) := fun j b hj => hF.cell (Hb5.out.cell j b hj) (by omega)
    clear c0 c1 c2 c3 f2 f3 hF
    generalize (w5.setCell ⟨P, 130, none⟩ (.int .i64 (q : Int))).setCell ⟨P, 131, none⟩ (.int .i64 (d : Int)) = w6 at *
    obtain ⟨-, c1, -, c3⟩ := HD6.cells
    have hcv : ∀ nq, (convert 51 9 (.slice (some ⟨g, 0, none⟩) k k)).run Try.prog (w6.drewN nq) = .ok (.string ⟨(ringL r f k).toArray⟩) (w6.drewN nq) := fun nq => by
      have := text_of (W := w6.drewN nq) hb6 k
      rw [ring_len] at this
      exact this
    rw [← HT.out] at hcv
    have HD7 := Lib.hid HD6
    have HF7 := Lib.hid HF6
    clear hb6 HD6 HF6 hd2
    by_cases hd0 : d = 0
    · subst hd0
      by_cases hw0 : wr = 0
      · subst hw0
        go_quiet (fail)
        go_wp2
        go_ret2
        exact ⟨ret_pair rfl (by simp [*]), HD7.out.fr (S := fun _ => False) ((Fr.refl _ _).drewN _) id, HF7.out.drewN _⟩
      · have hw1 : ((wr : Int) == 0) = false := by simp; omega
        have hw2 : decide (wr = 0) = false := by simp [hw0]
        clear hw0
        go_quiet (fail)
        go_wp2
        go_ret2
        exact ⟨ret_pair rfl (by simp [*]), HD7.out.fr (S := fun _ => False) ((Fr.refl _ _).drewN _) id, HF7.out.drewN _⟩
    · have hw1 : ((d : Int) == 0) = false := by simp; omega
      have hw2 : decide (d = 0) = false := by simp [hd0]
      clear hd0
      go_quiet (fail)
      go_wp2
      go_ret2
      exact ⟨ret_pair rfl (by simp [*]), HD7.out.fr (S := fun _ => False) ((Fr.refl _ _).drewN _) id, HF7.out.drewN _⟩
  · have h3 : 0 ≤ N := by omega
    have HK0 := Lib.hid hk0
    clear hk0
    go_enter Try.func15, Try.ntmps15
    go_wp2_with (refine wpList_make_full _ rfl _ _ 51 rfl B 5 i0 (.int .u8 0) 1 Try.underlying51 hi hz0 hz1 .i64 .i64 _ _ k rfl rfl (by have := HK0.out; omega) (by have := HK0.out; omega) (by rw [hz2]; omega) (by unfold maxLen; omega) (by rw [HB.out]; exact Nat.le_refl _) ?_)
    intro w1 hown1 hgrow
    have hb1 : Below B w w1 := (Below.refl B w).grown hgrow (by rw [HB.out]; exact Nat.le_refl _) (fun g hg => by cases hg)
    clear hgrow
    simp only [Value.cells, Nat.mul_one, made_zero] at hown1
    go_wp2
    obtain ⟨g, hg0⟩ : ∃ g, w.heap.size = g := ⟨_, rfl⟩
    rw [hg0] at hown1
    rw [hg0]
    obtain rfl : g = B := by rw [← hg0, HB.out]
    have hb := own_buf hown1
    have hlt : 0 < k → g < w1.heap.size := fun h0 => hb.lt (by unfold zerosB; simpa using h0)
    have HD := H.out.fr (Fr.of_below (S := fun _ => False) (by rw [HB.out]; exact hb1)) id
    have HF : Fr (· = P) w w1 := Fr.of_below (by rw [HB.out]; exact hb1)
    clear hown1 hb1 c0 c1 c2 c3
    refine wp_region_still_tail 9 (by kernel_rfl) (by kernel_rfl) ?_
    change wpStill _ _ w1.drew (fun a' => wpList _ _ _ _ a' w1.drew) _ _
    have HD2 := HD.fr (S := fun _ => False) ((Fr.refl _ _).drew) id
    have HF2 := HF.drew
    have hb2 : Buf w1.drew g (zerosB k) := ⟨hb.cell, hb.frozen⟩
    have hlt2 : 0 < k → g < w1.drew.heap.size := hlt
    clear HD HF hb hlt hg0
    generalize w1.drew = w2 at *
    obtain ⟨c0, c1, c2, c3⟩ := HD2.cells
    have hsl := ring_from (P := P) f hf
    simp only [List.take_succ_cons, List.take_zero, List.drop_succ_cons, List.drop_zero]
    repeat still_step
    refine wpStill_nil ?_
    obtain ⟨m1, hm1⟩ : ∃ m : Bs, m = (List.range (min k (128 - f))).map fun i => r (f + i) := ⟨_, rfl⟩
    have hl1 : m1.length = min k (128 - f) := by rw [hm1]; simp
    have hzl : (zerosB k).length = k := by simp [zerosB]
    have Hc1 := Lib.hid (show (m1.map cellB).length = Nat.min (128 - f) k by rw [List.length_map, hl1]; exact Nat.min_comm _ _)
    have Hs1 := Lib.hid (show 0 < (m1.map cellB).length → some (⟨g, 0, none⟩ : Addr) = some ⟨g, 0, none⟩ ∧ ∃ ad, some (⟨P, 2 + f, none⟩ : Addr) = some ad ∧ ∀ j v, (m1.map cellB)[j]? = some v → w2.cell? (ad.add j) = some v from fun _ => ⟨rfl, _, rfl, fun j v hv => by
      have hj := (List.getElem?_eq_some_iff.1 hv).1
      rw [List.length_map, hl1] at hj
      rw [Addr.add_lit, Nat.add_assoc, HD2.byte (j := f + j) (by omega), ← hv, hm1, List.getElem?_map, List.getElem?_map, List.getElem?_range (by omega)]
      rfl⟩)
    have Hd1 := Lib.hid (fun j (hj : j < (m1.map cellB).length) => (show (w2.cell? ⟨g, 0 + j, none⟩).isSome = true by rw [Nat.zero_add]; exact hb2.has j (by rw [hzl]; simp at hj; omega)))
    have Hf1 := Lib.hid (fun j (_ : j < (m1.map cellB).length) => hb2.frozen (0 + j))
    have Ho1 := Lib.hid (show ∀ v ∈ m1.map cellB, v.oneCell' = true from fun v hv => by obtain ⟨x, _, rfl⟩ := List.mem_map.1 hv; rfl)
    have Hm1 := Lib.hid hm1
    have Hl1 := Lib.hid hl1
    have Hzl := Lib.hid hzl
    clear hm1 hl1 hzl
    go_wp2_with (refine wpList_copy_set rfl _ _ _ _ rfl 5 Try.underlying51 h7 _ _ _ _ _ _ rfl rfl g 0 (m1.map cellB) Hc1.out Hs1.out Hd1.out Hf1.out Ho1.out ?_; rw [List.length_map])
    have HD3 := HD2.fr (Fr.setCells (S := (· = g)) (g := g) (.inl rfl) (m1.map cellB) 0 w2 (Fr.refl _ _)) (by omega)
    have HF3 := Fr.setCells (S := (· = P)) (.inr (by rw [HB.out]; exact Nat.le_refl _)) (m1.map cellB) 0 w2 HF2
    have hb3 := hb2.put 0 m1 (by rw [Hl1.out, Hzl.out]; omega)
    have hlt3 : 0 < k → g < (w2.setCells g 0 (m1.map cellB)).heap.size := fun h => Nat.lt_of_lt_of_le (hlt2 h) (Fr.setCells (S := (· = g)) (g := g) (.inl rfl) (m1.map cellB) 0 w2 (Fr.refl _ _)).size
    clear HD2 HF2 hb2 hlt2 Hs1 Hd1 Hf1 Hc1 Ho1 c0 c1 c2 c3 hsl
    generalize w2.setCells g 0 (m1.map cellB) = w3 at *
    refine wp_region_still_tail 7 (by kernel_rfl) (by kernel_rfl) ?_
    change wpStill _ _ w3.drew (fun a' => wpList _ _ _ _ a' w3.drew) _ _
    have HD := HD3.fr (S := fun _ => False) ((Fr.refl _ _).drew) id
    have HF := HF3.drew
    have hb : Buf w3.drew g (over (zerosB k) 0 m1) := ⟨hb3.cell, hb3.frozen⟩
    have hlt : 0 < k → g < w3.drew.heap.size := hlt3
    clear HD3 HF3 hb3 hlt3
    generalize w3.drew = w4 at *
    obtain ⟨k1, hk1⟩ : ∃ k1, k1 = m1.length := ⟨_, rfl⟩
    have Hk1 := Lib.hid hk1
    have hk1k : k1 ≤ k := by rw [hk1, Hl1.out]; exact Nat.min_le_left _ _
    rw [← hk1]
    clear hk1
    obtain ⟨dp, hdp, hdp2⟩ := cut_from g hk1k
    have hsl := ring_all (P := P)
    simp only [List.take_succ_cons, List.take_zero, List.drop_succ_cons, List.drop_zero]
    repeat still_step
    refine wpStill_nil ?_
    obtain ⟨m2, hm2⟩ : ∃ m : Bs, m = (List.range (k - k1)).map r := ⟨_, rfl⟩
    have hl2 : m2.length = k - k1 := by rw [hm2]; simp
    have hol : (over (zerosB k) 0 m1).length = k := by rw [over_len _ _ _ (by rw [Hl1.out, Hzl.out]; omega), Hzl.out]
    have Hc1 := Lib.hid (show (m2.map cellB).length = Nat.min 128 (k - k1) by rw [List.length_map, hl2]; exact (Nat.min_eq_right (by omega)).symm)
    have Hs1 := Lib.hid (show 0 < (m2.map cellB).length → dp = some ⟨g, k1, none⟩ ∧ ∃ ad, some (⟨P, 2, none⟩ : Addr) = some ad ∧ ∀ j v, (m2.map cellB)[j]? = some v → w4.cell? (ad.add j) = some v from fun h0 => ⟨hdp2 (by rw [List.length_map, hl2] at h0; omega), _, rfl, fun j v hv => by
      have hj := (List.getElem?_eq_some_iff.1 hv).1
      rw [List.length_map, hl2] at hj
      rw [Addr.add_lit, HD.byte (j := j) (by omega), ← hv, hm2, List.getElem?_map, List.getElem?_map, List.getElem?_range (by omega)]
      rfl⟩)
    have Hd1 := Lib.hid (fun j (hj : j < (m2.map cellB).length) => (show (w4.cell? ⟨g, k1 + j, none⟩).isSome = true from hb.has _ (by rw [hol]; rw [List.length_map, hl2] at hj; omega)))
    have Hf1 := Lib.hid (fun j (_ : j < (m2.map cellB).length) => hb.frozen (k1 + j))
    have Ho1 := Lib.hid (show ∀ v ∈ m2.map cellB, v.oneCell' = true from fun v hv => by obtain ⟨x, _, rfl⟩ := List.mem_map.1 hv; rfl)
    have HD5 := Lib.hid (HD.fr (Fr.setCells (S := (· = g)) (g := g) (.inl rfl) (m2.map cellB) k1 w4 (Fr.refl _ _)) (by omega))
    have HF5 := Lib.hid (Fr.setCells (S := (· = P)) (.inr (by rw [HB.out]; exact Nat.le_refl _)) (m2.map cellB) k1 w4 HF)
    have hb5 : Buf (w4.setCells g k1 (m2.map cellB)) g (ringL r f k) := by
      have e : over (over (zerosB k) 0 m1) k1 m2 = ringL r f k := by
        rw [Hk1.out, over_two m1 m2 (zerosB k) (by rw [Hzl.out, hl2, ← Hk1.out]; omega), ring_two r f k hf (by omega), ← Hm1.out, hm2, Hk1.out, Hl1.out]
      have h5 := hb.put k1 m2 (by rw [hol, hl2]; omega)
      rw [e] at h5
      exact h5
    have Hb5 := Lib.hid hb5
    have Hlt5 := Lib.hid (show 0 < k → g < (w4.setCells g k1 (m2.map cellB)).heap.size from fun h => Nat.lt_of_lt_of_le (hlt h) (Fr.setCells (S := (· = g)) (g := g) (.inl rfl) (m2.map cellB) k1 w4 (Fr.refl _ _)).size)
    have hd2 : (n : Int) - (k : Int) = (d : Int) := by have := Hd.out; omega
    clear HD HF hb hlt hm2 hl2 hol hdp hdp2 hsl hb5
    go_wp2_with (first
      | (refine wpList_copy_set rfl _ _ _ _ rfl 5 Try.underlying51 h7 _ _ _ _ _ _ rfl rfl g k1 (m2.map cellB) Hc1.out Hs1.out Hd1.out Hf1.out Ho1.out ?_; clear Hc1 Hs1 Hd1 Hf1 Ho1; generalize w4.setCells g k1 (m2.map cellB) = w5 at *; obtain ⟨c0, c1, c2, c3⟩ := HD5.out.cells; have f2 := HD5.out.frozen 130; have f3 := HD5.out.frozen 131)
      | (go_at_call 19; refine (HP _ HD5.out).mono ?_; rintro e w' ⟨rfl, rfl⟩))
    have HD6 := (HD5.out.setFirst q hq).setLength d (by have := Hd.out; omega)
    have HF6 := (HF5.out.trans (Fr.one _ _ _ _)).trans (Fr.one (w5.setCell ⟨P, 130, none⟩ (.int .i64 (q : Int))) P 131 (.int .i64 (d : Int)))
    have hF : Fr (· = P) w5 ((w5.setCell ⟨P, 130, none⟩ (.int .i64 (q : Int))).setCell ⟨P, 131, none⟩ (.int .i64 (d : Int))) := (Fr.one _ _ _ _).trans (Fr.one _ _ _ _)
    have hb6 : ∀ (j : Nat) (b : UInt8), (ringL r f k)[j]? = some b → ((w5.setCell ⟨P, 130, none⟩ (.int .i64 (q : Int))).setCell ⟨P, 131, none⟩ (.int .i64 (d : Int))).cell? ⟨g, j, none⟩ = some (cellB b) := fun j b hj => hF.cell (Hb5.out.cell j b hj) (by omega)
    clear c0 c1 c2 c3 f2 f3 hF
    generalize (w5.setCell ⟨P, 130, none⟩ (.int .i64 (q : Int))).setCell ⟨P, 131, none⟩ (.int .i64 (d : Int)) = w6 at *
    obtain ⟨-, c1, -, c3⟩ := HD6.cells
    have hcv : ∀ nq, (convert 51 9 (.slice (some ⟨g, 0, none⟩) k k)).run Try.prog (w6.drewN nq) = .ok (.string ⟨(ringL r f k).toArray⟩) (w6.drewN nq) := fun nq => by
      have := text_of (W := w6.drewN nq) hb6 k
      rw [ring_len] at this
      exact this
    rw [← HT.out] at hcv
    have HD7 := Lib.hid HD6
    have HF7 := Lib.hid HF6
    clear hb6 HD6 HF6 hd2
    by_cases hd0 : d = 0
    · subst hd0
      by_cases hw0 : wr = 0
      · subst hw0
        go_quiet (fail)
        go_wp2
        go_ret2
        exact ⟨ret_pair rfl (by simp [*]), HD7.out.fr (S := fun _ => False) ((Fr.refl _ _).drewN _) id, HF7.out.drewN _⟩
      · have hw1 : ((wr : Int) == 0) = false := by simp; omega
        have hw2 : decide (wr = 0) = false := by simp [hw0]
        clear hw0
        go_quiet (fail)
        go_wp2
        go_ret2
        exact ⟨ret_pair rfl (by simp [*]), HD7.out.fr (S := fun _ => False) ((Fr.refl _ _).drewN _) id, HF7.out.drewN _⟩
    · have hw1 : ((d : Int) == 0) = false := by simp; omega
      have hw2 : decide (d = 0) = false := by simp [hd0]
      clear hd0
      go_quiet (fail)
      go_wp2
      go_ret2
      exact ⟨ret_pair rfl (by simp [*]), HD7.out.fr (S := fun _ => False) ((Fr.refl _ _).drewN _) id, HF7.out.drewN _⟩
end Go.Proofs.Ythgjhpiajjamnaa
