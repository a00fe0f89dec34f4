/- Contracts of the program's Write and Read. -/
import Derived.Test.YthgjhpiajjamnaaKC
namespace Go.Proofs.Ythgjhpiajjamnaa
open Go.RowKit
set_option linter.unusedVariables false
set_option linter.unusedSimpArgs false
variable {W W' : World} {P : Nat} {r : Nat → UInt8} {f n rd wr : Nat}

theorem elemB : (Try.prog.info? 5).map (·.size) = some 1 := by kernel_rfl
theorem pwrite_none (s : ByteArray) (w : World) (h : PI w P r f n 0 wr) :
    Calls Try.prog 13 #[.pointer (some ⟨P, 0, none⟩), .string s] w fun e w' => e = .returned (.tuple #[.int .i64 0, .int .i64 14]) ∧ w = w' := by
  obtain ⟨c0, -, -, -⟩ := h.cells
  clear h
  go_enter Try.func13, Try.ntmps13
  go_wp2
  go_ret2
  exact ⟨rfl, rfl⟩
theorem ringU : Try.prog.underlying 46 = some (.array (Try.prog.arrayLen 46) (Try.prog.elem 46)) := by kernel_rfl
theorem ringN : Try.prog.arrayLen 46 = 128 := by kernel_rfl
theorem ringE (w : World) : (sizeOf (Try.prog.elem 46)).run Try.prog w = .ok 1 w := by kernel_rfl
theorem ring_from (q : Nat) (hq : q < 128) (w : World) :
    (Instr.sliceAt 46 (.pointer (some ⟨P, 2, none⟩)) (some (.int .i64 (q : Int))) none none).run Try.prog w = .ok (.slice (some ⟨P, 2 + q, none⟩) (128 - q) (128 - q)) w := by
  rw [run_sliceAt_array_l w _ _ ringU .i64 (q : Int) (by omega) (by rw [ringN]; omega), ringE, ringN]
  simp only [Result.andThen_ok, Int.toNat_natCast]
  unfold slicedAt
  rw [if_neg (by omega), Nat.mul_one, Addr.add_lit]
theorem ring_all (w : World) :
    (Instr.sliceAt 46 (.pointer (some ⟨P, 2, none⟩)) none none none).run Try.prog w = .ok (.slice (some ⟨P, 2, none⟩) 128 128) w := by
  rw [run_sliceAt_array_all w _ _ ringU, ringE, ringN]
  rfl
theorem ext_take (s : ByteArray) (m : Nat) : (s.extract 0 m).data.toList = s.data.toList.take m := by
  simp [ByteArray.data_extract]
theorem data_len (s : ByteArray) : s.data.toList.length = s.size := rfl
theorem ext_drop (s : ByteArray) (m : Nat) : (s.extract m s.size).data.toList = s.data.toList.drop m := by
  simp [ByteArray.data_extract, List.take_of_length_le]
set_option maxHeartbeats 1000000 in
theorem pwrite_raw (s : ByteArray) (hs : s.size ≤ maxLen) (w : World) (h : PI w P r f n rd wr) (h0 : 0 < rd) (h1 : rd < 1000000) :
    Calls Try.prog 13 #[.pointer (some ⟨P, 0, none⟩), .string s] w fun e w' => ∃ m, m = (s.data.toList.take (128 - n)).length ∧ e = .returned (.tuple #[.int .i64 (m : Nat), .int .i64 0]) ∧ PI w' P (put2 r ((f + n) % 128) (s.data.toList.take (128 - n))) f (n + m) rd wr ∧ Fr (· = P) w w' := by
  obtain ⟨c0, c1, c2, c3⟩ := h.cells
  have hn := h.hn
  have hq := Nat.mod_lt (f + n) (show 0 < 128 by decide)
  unfold maxLen at hs
  have HP := fun (W : World) (H : PI W P r f n rd wr) => place_any n hn W H
  generalize (f + n) % 128 = q at hq HP ⊢
  have H := Lib.hid h
  clear h
  have hm : ((128 : Int) - n) = ((128 - n : Nat) : Int) := by omega
  have ne0 : ((rd : Int) == 0) = false := by simp; omega
  have key : s.size ≤ 128 - n ∨ 128 - n < s.size := by omega
  have h7 : (Try.prog.info? 5).map (·.size) = some 1 := elemB
  obtain ⟨L, hL⟩ : ∃ L, L = s.data.toList.take (128 - n) := ⟨_, rfl⟩
  have hl : L.length ≤ 128 - n := by rw [hL, List.length_take]; exact Nat.min_le_left _ _
  rw [← hL]
  have HL := Lib.hid hL
  clear hL
  rcases key with hle | hle
  all_goals
    go_enter Try.func13, Try.ntmps13
    go_wp2
  · have ht : s.data.toList = L := by rw [HL.out, List.take_of_length_le (by rw [data_len]; exact hle)]
    obtain ⟨t, rfl⟩ : ∃ t, t = s := ⟨s, rfl⟩
    have hts : t.size = L.length := by rw [← ht, data_len]
    have HT := Lib.hid ht
    have hl2 : t.size ≤ 128 - n := by omega
    have HTS := Lib.hid hts
    clear ht hts hl
    refine wp_region_still_tail 11 (by kernel_rfl) (by kernel_rfl) ?_
    change wpStill _ _ w.drew (fun a' => wpList _ _ _ _ a' w.drew) _ _
    have HD := H.out.fr (S := fun _ => False) ((Fr.refl _ _).drew) id
    have HF := (Fr.refl (· = P) w).drew
    clear c0 c1 c2 c3
    generalize w.drew = W2 at *
    obtain ⟨c0, c1, c2, c3⟩ := HD.cells
    have hsl := ring_from (P := P) q hq
    simp only [List.take_succ_cons, List.take_zero, List.drop_succ_cons, List.drop_zero]
    repeat still_step
    still_call ((HP _ HD).mono fun e w' h => ⟨h.1, h.2.symm⟩)
    repeat still_step
    refine wpStill_nil ?_
    obtain ⟨cs, hcs⟩ : ∃ cs, cs = (t.data.toList.take (128 - q)).map cellB := ⟨_, rfl⟩
    have hlen : cs.length = min (128 - q) t.size := by rw [hcs, List.length_map, List.length_take, data_len]
    have HC := Lib.hid hcs
    have HB := Lib.hid (fun j (hj : j < cs.length) => (show (W2.cell? ⟨P, 2 + q + j, none⟩).isSome = true by rw [Nat.add_assoc, HD.byte (show q + j < 128 by omega)]; rfl))
    have HFz := Lib.hid (fun j (_ : j < cs.length) => HD.frozen (2 + q + j))
    obtain ⟨k, hk⟩ : ∃ k, k = cs.length := ⟨_, rfl⟩
    have hk1 : k ≤ t.size := by omega
    have hk2 : k = min (128 - q) t.size := by omega
    have HK := Lib.hid hk
    have HK2 := Lib.hid hk2
    clear hcs hlen hk hk2
    go_wp2_with (refine wpList_copy_text rfl _ _ _ _ rfl 5 Try.underlying51 h7 _ _ _ t rfl rfl P (2 + q) cs HC.out (fun _ => rfl) HB.out HFz.out ?_; rw [← HK.out])
    have HD2 := HD.put q (t.data.toList.take (128 - q)) (by rw [List.length_take]; omega)
    have HF2 := Fr.setCells (S := (· = P)) (g := P) (.inl rfl) cs (2 + q) W2 HF
    rw [← HC.out] at HD2
    clear HD HF c0 c1 c2 c3 HB HFz HP hsl
    generalize W2.setCells P (2 + q) cs = W3 at *
    refine wp_region_still_tail 7 (by kernel_rfl) (by kernel_rfl) ?_
    change wpStill _ _ W3.drew (fun a' => wpList _ _ _ _ a' W3.drew) _ _
    have HD := HD2.fr (S := fun _ => False) ((Fr.refl _ _).drew) id
    have HF := HF2.drew
    clear HD2 HF2
    generalize W3.drew = W4 at *
    have hsl := ring_all (P := P)
    simp only [List.take_succ_cons, List.take_zero, List.drop_succ_cons, List.drop_zero]
    repeat still_step
    refine wpStill_nil ?_
    obtain ⟨u, hu⟩ : ∃ u, u = t.extract k t.size := ⟨_, rfl⟩
    rw [← hu]
    have hud : u.data.toList = L.drop (128 - q) := by
      rw [hu, ext_drop, HT.out, HK2.out, HTS.out]
      rcases Nat.le_total (128 - q) L.length with e | e
      · rw [Nat.min_eq_left e]
      · rw [Nat.min_eq_right e, List.drop_length, List.drop_eq_nil_of_le e]
    have hus : u.size ≤ 128 := by rw [← data_len, hud, List.length_drop]; have := HTS.out; omega
    obtain ⟨cs2, hcs2⟩ : ∃ cs, cs = (u.data.toList.take 128).map cellB := ⟨_, rfl⟩
    have hlen2 : cs2.length ≤ 128 := by rw [hcs2, List.length_map, List.length_take]; omega
    have HC2 := Lib.hid hcs2
    have HB2 := Lib.hid (fun j (hj : j < cs2.length) => (show (W4.cell? ⟨P, 2 + j, none⟩).isSome = true by rw [HD.byte (show j < 128 by omega)]; rfl))
    have HFz2 := Lib.hid (fun j (_ : j < cs2.length) => HD.frozen (2 + j))
    have HU := Lib.hid hud
    clear hu hcs2 hlen2 hud
    have hfit : 0 + (u.data.toList.take 128).length ≤ 128 := by rw [List.length_take]; omega
    have HD2 := HD.put 0 (u.data.toList.take 128) hfit
    have HF2 := Fr.setCells (S := (· = P)) (g := P) (.inl rfl) cs2 (2 + 0) W4 HF
    rw [← HC2.out] at HD2
    rw [Nat.add_zero] at HD2 HF2
    rw [show u.data.toList.take 128 = u.data.toList from List.take_of_length_le (by rw [data_len]; exact hus), HU.out, HT.out] at HD2
    have H5 := Lib.hid HD2
    have HF5 := Lib.hid HF2
    clear HD HF hsl HD2 HF2 hfit
    go_wp2_with (refine wpList_copy_text rfl _ _ _ _ rfl 5 Try.underlying51 h7 _ _ _ u rfl rfl P 2 cs2 HC2.out (fun _ => rfl) HB2.out HFz2.out ?_; clear HB2 HFz2; generalize W4.setCells P 2 cs2 = W5 at *; obtain ⟨-, -, -, c3⟩ := H5.out.cells; have f3 := H5.out.frozen 131)
    go_ret2
    refine ⟨t.size, HTS.out, rfl, H5.out.setLength (n + t.size) (by omega), HF5.out.trans (Fr.one _ _ _ _)⟩
  · obtain ⟨t, hte⟩ : ∃ t, t = s.extract 0 (128 - n) := ⟨_, rfl⟩
    have ht : t.data.toList = L := by rw [hte, HL.out]; exact ext_take _ _
    rw [← hte]
    clear hte
    have hts : t.size = L.length := by rw [← ht, data_len]
    have HT := Lib.hid ht
    have hl2 : t.size ≤ 128 - n := by omega
    have HTS := Lib.hid hts
    clear ht hts hl
    refine wp_region_still_tail 11 (by kernel_rfl) (by kernel_rfl) ?_
    change wpStill _ _ w.drew (fun a' => wpList _ _ _ _ a' w.drew) _ _
    have HD := H.out.fr (S := fun _ => False) ((Fr.refl _ _).drew) id
    have HF := (Fr.refl (· = P) w).drew
    clear c0 c1 c2 c3
    generalize w.drew = W2 at *
    obtain ⟨c0, c1, c2, c3⟩ := HD.cells
    have hsl := ring_from (P := P) q hq
    simp only [List.take_succ_cons, List.take_zero, List.drop_succ_cons, List.drop_zero]
    repeat still_step
    still_call ((HP _ HD).mono fun e w' h => ⟨h.1, h.2.symm⟩)
    repeat still_step
    refine wpStill_nil ?_
    obtain ⟨cs, hcs⟩ : ∃ cs, cs = (t.data.toList.take (128 - q)).map cellB := ⟨_, rfl⟩
    have hlen : cs.length = min (128 - q) t.size := by rw [hcs, List.length_map, List.length_take, data_len]
    have HC := Lib.hid hcs
    have HB := Lib.hid (fun j (hj : j < cs.length) => (show (W2.cell? ⟨P, 2 + q + j, none⟩).isSome = true by rw [Nat.add_assoc, HD.byte (show q + j < 128 by omega)]; rfl))
    have HFz := Lib.hid (fun j (_ : j < cs.length) => HD.frozen (2 + q + j))
    obtain ⟨k, hk⟩ : ∃ k, k = cs.length := ⟨_, rfl⟩
    have hk1 : k ≤ t.size := by omega
    have hk2 : k = min (128 - q) t.size := by omega
    have HK := Lib.hid hk
    have HK2 := Lib.hid hk2
    clear hcs hlen hk hk2
    go_wp2_with (refine wpList_copy_text rfl _ _ _ _ rfl 5 Try.underlying51 h7 _ _ _ t rfl rfl P (2 + q) cs HC.out (fun _ => rfl) HB.out HFz.out ?_; rw [← HK.out])
    have HD2 := HD.put q (t.data.toList.take (128 - q)) (by rw [List.length_take]; omega)
    have HF2 := Fr.setCells (S := (· = P)) (g := P) (.inl rfl) cs (2 + q) W2 HF
    rw [← HC.out] at HD2
    clear HD HF c0 c1 c2 c3 HB HFz HP hsl
    generalize W2.setCells P (2 + q) cs = W3 at *
    refine wp_region_still_tail 7 (by kernel_rfl) (by kernel_rfl) ?_
    change wpStill _ _ W3.drew (fun a' => wpList _ _ _ _ a' W3.drew) _ _
    have HD := HD2.fr (S := fun _ => False) ((Fr.refl _ _).drew) id
    have HF := HF2.drew
    clear HD2 HF2
    generalize W3.drew = W4 at *
    have hsl := ring_all (P := P)
    simp only [List.take_succ_cons, List.take_zero, List.drop_succ_cons, List.drop_zero]
    repeat still_step
    refine wpStill_nil ?_
    obtain ⟨u, hu⟩ : ∃ u, u = t.extract k t.size := ⟨_, rfl⟩
    rw [← hu]
    have hud : u.data.toList = L.drop (128 - q) := by
      rw [hu, ext_drop, HT.out, HK2.out, HTS.out]
      rcases Nat.le_total (128 - q) L.length with e | e
      · rw [Nat.min_eq_left e]
      · rw [Nat.min_eq_right e, List.drop_length, List.drop_eq_nil_of_le e]
    have hus : u.size ≤ 128 := by rw [← data_len, hud, List.length_drop]; have := HTS.out; omega
    obtain ⟨cs2, hcs2⟩ : ∃ cs, cs = (u.data.toList.take 128).map cellB := ⟨_, rfl⟩
    have hlen2 : cs2.length ≤ 128 := by rw [hcs2, List.length_map, List.length_take]; omega
    have HC2 := Lib.hid hcs2
    have HB2 := Lib.hid (fun j (hj : j < cs2.length) => (show (W4.cell? ⟨P, 2 + j, none⟩).isSome = true by rw [HD.byte (show j < 128 by omega)]; rfl))
    have HFz2 := Lib.hid (fun j (_ : j < cs2.length) => HD.frozen (2 + j))
    have HU := Lib.hid hud
    clear hu hcs2 hlen2 hud
    have hfit : 0 + (u.data.toList.take 128).length ≤ 128 := by rw [List.length_take]; omega
    have HD2 := HD.put 0 (u.data.toList.take 128) hfit
    have HF2 := Fr.setCells (S := (· = P)) (g := P) (.inl rfl) cs2 (2 + 0) W4 HF
    rw [← HC2.out] at HD2
    rw [Nat.add_zero] at HD2 HF2
    rw [show u.data.toList.take 128 = u.data.toList from List.take_of_length_le (by rw [data_len]; exact hus), HU.out, HT.out] at HD2
    have H5 := Lib.hid HD2
    have HF5 := Lib.hid HF2
    clear HD HF hsl HD2 HF2 hfit
    go_wp2_with (refine wpList_copy_text rfl _ _ _ _ rfl 5 Try.underlying51 h7 _ _ _ u rfl rfl P 2 cs2 HC2.out (fun _ => rfl) HB2.out HFz2.out ?_; clear HB2 HFz2; generalize W4.setCells P 2 cs2 = W5 at *; obtain ⟨-, -, -, c3⟩ := H5.out.cells; have f3 := H5.out.frozen 131)
    go_ret2
    refine ⟨t.size, HTS.out, rfl, H5.out.setLength (n + t.size) (by omega), HF5.out.trans (Fr.one _ _ _ _)⟩
/-- a block of bytes. -/
structure Buf (W : World) (g : Nat) (l : Bs) : Prop where
  cell : ∀ (j : Nat) (b : UInt8), l[j]? = some b → W.cell? ⟨g, j, none⟩ = some (cellB b)
  frozen : ∀ j, W.frozen? ⟨g, j, none⟩ = false
theorem Buf.lt {g : Nat} {l : Bs} (h : Buf W g l) (hl : 0 < l.length) : g < W.heap.size := cell_lt (h.cell 0 l[0] (List.getElem?_eq_getElem hl))
theorem Buf.has {g : Nat} {l : Bs} (h : Buf W g l) (j : Nat) (hj : j < l.length) : (W.cell? ⟨g, j, none⟩).isSome = true := by
  rw [h.cell j l[j] (List.getElem?_eq_getElem hj)]; rfl
/-- these bytes laid over others from place o on. -/
def over (l : Bs) (o : Nat) (m : Bs) : Bs := l.take o ++ (m ++ l.drop (o + m.length))
theorem over_len (l m : Bs) (o : Nat) (h : o + m.length ≤ l.length) : (over l o m).length = l.length := by simp [over]; omega
theorem over_at (l m : Bs) (o : Nat) (h : o + m.length ≤ l.length) (j : Nat) : (over l o m)[j]? = if o ≤ j ∧ j < o + m.length then m[j - o]? else l[j]? := by
  unfold over
  by_cases h1 : j < o
  · rw [if_neg (by omega), List.getElem?_append_left (by simp; omega), List.getElem?_take_of_lt h1]
  · rw [List.getElem?_append_right (by simp; omega), List.length_take, Nat.min_eq_left (by omega)]
    by_cases h2 : j < o + m.length
    · rw [if_pos (by omega), List.getElem?_append_left (by omega)]
    · rw [if_neg (by omega), List.getElem?_append_right (by omega), List.getElem?_drop]
      congr 1
      omega
theorem Buf.put {g : Nat} {l : Bs} (h : Buf W g l) (o : Nat) (m : Bs) (hm : o + m.length ≤ l.length) : Buf (W.setCells g o (m.map cellB)) g (over l o m) := by
  refine ⟨fun j b hj => ?_, fun j => by rw [World.frozen?_setCells]; exact h.frozen j⟩
  rw [over_at l m o hm] at hj
  by_cases e : o ≤ j ∧ j < o + m.length
  · rw [if_pos e] at hj
    have hjl := (List.getElem?_eq_some_iff.1 hj).1
    have := World.cell?_setCells_in g (m.map cellB) o W (fun i hi => h.has (o + i) (by simp at hi; omega)) (j - o) (by simpa using hjl)
    rw [show o + (j - o) = j by omega] at this
    rw [this]
    have h2 := (List.getElem?_eq_some_iff.1 hj).2
    simp [h2]
  · rw [if_neg e] at hj
    rw [World.cell?_setCells_out g _ o W _ (fun _ _ => by simp; omega)]
    exact h.cell j b hj
theorem Buf.fr {S : Nat → Prop} {g : Nat} {l : Bs} (h : Buf W g l) (hg : g < W.heap.size) (k : Fr S W W') (hs : ¬ S g) : Buf W' g l :=
  ⟨fun j b hj => (World.cell?_of_block (k.block g hg hs)).trans (h.cell j b hj), fun j => (World.frozen?_of_block (k.block g hg hs)).trans (h.frozen j)⟩
theorem Buf.text {g : Nat} {l : Bs} (h : Buf W g l) (cap : Nat) : (convert 51 9 (.slice (some ⟨g, 0, none⟩) l.length cap)).run Try.prog W = .ok (.string ⟨l.toArray⟩) W :=
  run_convert_bytes_back W 51 9 5 ⟨g, 0, none⟩ cap l Try.underlying51 Try.underlying5 Try.underlying9 fun j hj => by
    rw [Addr.add_lit, Nat.zero_add]
    exact h.cell j _ (List.getElem?_eq_getElem hj)
theorem over_two (a b z : Bs) (h : z.length = a.length + b.length) : over (over z 0 a) a.length b = a ++ b := by
  have h1 := over_len z a 0 (by omega)
  apply List.ext_getElem?
  intro j
  rw [over_at _ _ _ (by omega), over_at _ _ _ (by omega)]
  by_cases e : j < a.length
  · rw [if_neg (by omega), if_pos (by omega), List.getElem?_append_left e, Nat.sub_zero]
  · rw [List.getElem?_append_right (by omega)]
    by_cases e2 : j < a.length + b.length
    · rw [if_pos (by omega)]
    · rw [if_neg (by omega), if_neg (by omega), List.getElem?_eq_none (by omega), List.getElem?_eq_none (by omega)]
end Go.Proofs.Ythgjhpiajjamnaa
