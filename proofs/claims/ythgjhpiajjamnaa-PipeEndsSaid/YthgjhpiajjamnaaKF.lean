/- The document's pipe: its memory and the contracts of its calls. -/
import Derived.Test.YthgjhpiajjamnaaKE
namespace Go.Proofs.Ythgjhpiajjamnaa
open Go.RowKit
set_option linter.unusedVariables false
set_option linter.unusedSimpArgs false
variable {W W' : World} {B rd wr : Nat} {s : ByteArray}

def refF (s : ByteArray) (rd wr : Nat) (j : Nat) : Value := if j = 0 then .int .i64 rd else if j = 1 then .int .i64 wr else .string s
structure RI (W : World) (B : Nat) (s : ByteArray) (rd wr : Nat) : Prop where
  row : W.rowIs B 40 3 (refF s rd wr)
  hn : s.size ≤ 128
theorem RI.fr {S : Nat → Prop} (h : RI W B s rd wr) (k : Fr S W W') (hs : ¬ S B) : RI W' B s rd wr := ⟨h.row.of_block (k.block B h.row.lt hs), h.hn⟩
theorem RI.cells (h : RI W B s rd wr) : W.cell? ⟨B, 0, none⟩ = some (.int .i64 rd) ∧ W.cell? ⟨B, 1, none⟩ = some (.int .i64 wr) ∧ W.cell? ⟨B, 2, none⟩ = some (.string s) :=
  ⟨h.row.cell (by decide), h.row.cell (by decide), h.row.cell (by decide)⟩
theorem RI.frozen (h : RI W B s rd wr) (o : Nat) : W.frozen? ⟨B, o, none⟩ = false := h.row.frozen o
theorem RI.setR (h : RI W B s rd wr) (k : Nat) : RI (W.setCell ⟨B, 0, none⟩ (.int .i64 k)) B s k wr :=
  ⟨(h.row.set 0 _).congr fun j _ => by unfold refF; by_cases e : j = 0 <;> simp [e], h.hn⟩
theorem RI.setW (h : RI W B s rd wr) (k : Nat) : RI (W.setCell ⟨B, 1, none⟩ (.int .i64 k)) B s rd k :=
  ⟨(h.row.set 1 _).congr fun j _ => by
    unfold refF
    by_cases e : j = 1
    · simp [e]
    · simp [e], h.hn⟩
theorem RI.setRow (h : RI W B s rd wr) (t : ByteArray) (ht : t.size ≤ 128) : RI (W.setCell ⟨B, 2, none⟩ (.string t)) B t rd wr :=
  ⟨(h.row.set 2 _).congr fun j hj => by
    unfold refF
    match j, hj with
    | 0, _ => rfl
    | 1, _ => rfl
    | 2, _ => rfl, ht⟩
theorem rnew_any (w : World) :
    Calls Try.prog 8 #[] w fun e w' => e = .returned (.pointer (some ⟨w.heap.size, 0, none⟩)) ∧ RI w' w.heap.size ⟨#[]⟩ 1 1 ∧ Below w.heap.size w w' := by
  go_enter Try.func8, Try.ntmps8
  have hz : ∀ w, (zeroValue 40).run Try.prog w = .ok (.agg #[.int .i64 0, .int .i64 0, .string ⟨#[]⟩]) w := fun w => by kernel_rfl
  go_wp2
  go_ret
  have hr := World.rowIs_alloc w #[.int .i64 1, .int .i64 1, .string ⟨#[]⟩] 40 (refF ⟨#[]⟩ 1 1) (fun i hi => by
    match i, hi with
    | 0, _ => rfl
    | 1, _ => rfl
    | 2, _ => rfl)
  exact ⟨rfl, ⟨hr, by decide⟩, (Below.refl _ _).alloc (Nat.le_refl _) _⟩
theorem rjoin_any (b : Bool) (w : World) (h : RI w B s rd wr) (h1 : rd < 1000000) (h2 : wr < 1000000) :
    Calls Try.prog 10 #[.pointer (some ⟨B, 0, none⟩), .bool b] w fun e w' => e = .returned (.tuple #[]) ∧ RI w' B s (if b then rd else rd + 1) (if b then wr + 1 else wr) ∧ Fr (· = B) w w' := by
  obtain ⟨c0, c1, -⟩ := h.cells
  have f0 := h.frozen 0
  have f1 := h.frozen 1
  have H := Lib.hid h
  clear h
  cases b
  all_goals
    go_enter Try.func10, Try.ntmps10
    go_wp2
    refine bodyPost_end (results_none rfl _ _ _) rfl ?_
  · exact ⟨rfl, by simpa using H.out.setR (rd + 1), Fr.one _ _ _ _⟩
  · exact ⟨rfl, by simpa using H.out.setW (wr + 1), Fr.one _ _ _ _⟩
theorem rleave_any (b : Bool) (w : World) (h : RI w B s rd wr) (h1 : rd < 1000000) (h2 : wr < 1000000) :
    Calls Try.prog 12 #[.pointer (some ⟨B, 0, none⟩), .bool b] w fun e w' => e = .returned (.bool (decide (0 < if b then wr else rd))) ∧ RI w' B s (if b then rd else rd - 1) (if b then wr - 1 else wr) ∧ Fr (· = B) w w' := by
  obtain ⟨c0, c1, -⟩ := h.cells
  have f0 := h.frozen 0
  have f1 := h.frozen 1
  have H := Lib.hid h
  clear h
  cases b
  · simp only [Bool.false_eq_true, if_true, if_false]
    by_cases h0 : 0 < rd
    · obtain ⟨k, rfl⟩ : ∃ k, rd = k + 1 := ⟨rd - 1, by omega⟩
      have ne : (((k : Int) + 1) == 0) = false := by simp; omega
      clear h0
      go_enter Try.func12, Try.ntmps12
      go_wp2
      go_ret
      exact ⟨ret_bool (by simp), by simpa using H.out.setR k, Fr.one _ _ _ _⟩
    · obtain rfl : rd = 0 := by omega
      clear h0
      go_enter Try.func12, Try.ntmps12
      go_wp2
      go_ret
      exact ⟨ret_bool (by simp), by simpa using H.out, Fr.refl _ _⟩
  · simp only [Bool.false_eq_true, if_true, if_false]
    by_cases h0 : 0 < wr
    · obtain ⟨k, rfl⟩ : ∃ k, wr = k + 1 := ⟨wr - 1, by omega⟩
      have ne : (((k : Int) + 1) == 0) = false := by simp; omega
      clear h0
      go_enter Try.func12, Try.ntmps12
      go_wp2
      go_ret
      exact ⟨ret_bool (by simp), by simpa using H.out.setW k, Fr.one _ _ _ _⟩
    · obtain rfl : wr = 0 := by omega
      clear h0
      go_enter Try.func12, Try.ntmps12
      go_wp2
      go_ret
      exact ⟨ret_bool (by simp), by simpa using H.out, Fr.refl _ _⟩
theorem rwrite_none (t : ByteArray) (w : World) (h : RI w B s 0 wr) :
    Calls Try.prog 14 #[.pointer (some ⟨B, 0, none⟩), .string t] w fun e w' => e = .returned (.tuple #[.int .i64 0, .int .i64 14]) ∧ w = w' := by
  obtain ⟨c0, -⟩ := h.cells
  clear h
  go_enter Try.func14, Try.ntmps14
  go_wp2
  go_ret2
  exact ⟨rfl, rfl⟩
theorem rwrite_any (t : ByteArray) (ht : t.size ≤ maxLen) (w : World) (h : RI w B s rd wr) (h0 : 0 < rd) (h1 : rd < 1000000) :
    Calls Try.prog 14 #[.pointer (some ⟨B, 0, none⟩), .string t] w fun e w' => ∃ u : ByteArray, u.data.toList = s.data.toList ++ t.data.toList.take (128 - s.size) ∧ e = .returned (.tuple #[.int .i64 ((t.data.toList.take (128 - s.size)).length : Nat), .int .i64 0]) ∧ RI w' B u rd wr ∧ Fr (· = B) w w' := by
  obtain ⟨c0, c1, c2⟩ := h.cells
  have f2 := h.frozen 2
  have hn := h.hn
  unfold maxLen at ht
  have H := Lib.hid h
  clear h
  have hm : ((128 : Int) - s.size) = ((128 - s.size : Nat) : Int) := by omega
  have ne0 : ((rd : Int) == 0) = false := by simp; omega
  have key : t.size ≤ 128 - s.size ∨ 128 - s.size < t.size := by omega
  rcases key with hle | hle
  · have hl : t.data.toList.take (128 - s.size) = t.data.toList := List.take_of_length_le (by rw [data_len]; exact hle)
    rw [hl]
    clear hl
    go_enter Try.func14, Try.ntmps14
    go_wp2
    go_region
    all_goals go_wp2
    all_goals go_ret2
    have hu : (s ++ t).data.toList = s.data.toList ++ t.data.toList := by simp [ByteArray.data_append]
    have hz : (s ++ t).size ≤ 128 := by rw [← data_len, hu, List.length_append, data_len, data_len]; omega
    exact ⟨s ++ t, hu, ret_pair rfl rfl, (H.out.setRow _ hz).fr (S := fun _ => False) ((Fr.refl _ _).drew) id, (Fr.one _ _ _ _).drew⟩
  · obtain ⟨x, hx⟩ : ∃ x, x = t.extract 0 (128 - s.size) := ⟨_, rfl⟩
    have hxd : x.data.toList = t.data.toList.take (128 - s.size) := by rw [hx]; exact ext_take _ _
    have hxs : x.size = 128 - s.size := by rw [← data_len, hxd]; simp [data_len]; omega
    rw [← hxd, data_len, hxs]
    have hx2 : (t.extract 0 (128 - s.size)).size ≤ 128 := by rw [← hx]; omega
    have HX := Lib.hid hx
    have HXS := Lib.hid hxs
    clear hx hxd hxs
    go_enter Try.func14, Try.ntmps14
    go_wp2
    go_region
    all_goals go_wp2
    all_goals go_ret2
    rw [← HX.out]
    have hu : (s ++ x).data.toList = s.data.toList ++ x.data.toList := by simp [ByteArray.data_append]
    have hz : (s ++ x).size ≤ 128 := by rw [← data_len, hu, List.length_append, data_len, data_len, HXS.out]; omega
    exact ⟨s ++ x, hu, ret_pair rfl rfl, (H.out.setRow _ hz).fr (S := fun _ => False) ((Fr.refl _ _).drew) id, (Fr.one _ _ _ _).drew⟩
theorem ext_drop2 (s : ByteArray) (k : Nat) (hk : k ≤ s.size) : (s.extract k s.size).size = s.size - k := by
  rw [← data_len, ext_drop, List.length_drop, data_len]
set_option maxHeartbeats 1000000 in
theorem rread_any (N : Int) (w : World) (h : RI w B s rd wr) :
    Calls Try.prog 16 #[.pointer (some ⟨B, 0, none⟩), .int .i64 N] w fun e w' => ∃ u v : ByteArray, u.data.toList = s.data.toList.take (readK N s.size) ∧ v.data.toList = s.data.toList.drop (readK N s.size) ∧ e = .returned (.tuple #[.string u, .bool (endB s.size (readK N s.size) wr)]) ∧ RI w' B v rd wr ∧ Fr (· = B) w w' := by
  obtain ⟨c0, c1, c2⟩ := h.cells
  have f2 := h.frozen 2
  have hn := h.hn
  have hk := readK_le N s.size
  have H := Lib.hid h
  have key : (N ≤ 0 ∧ readK N s.size = 0) ∨ (0 < N ∧ N ≤ s.size ∧ (readK N s.size : Int) = N) ∨ (0 < N ∧ s.size < N ∧ 0 < (s.size : Int) ∧ readK N s.size = s.size) ∨ (0 < N ∧ s.size < N ∧ (s.size : Int) ≤ 0 ∧ readK N s.size = s.size) := by unfold readK; omega
  clear h
  generalize readK N s.size = k at *
  obtain ⟨d, hd⟩ : ∃ d : Nat, s.size = k + d := ⟨s.size - k, by omega⟩
  rw [show endB s.size k wr = (decide (d = 0) && decide (wr = 0)) by unfold endB; rw [show s.size - k = d by omega]]
  have hx : (s.extract k s.size).size = d := by rw [ext_drop2 s k hk]; omega
  obtain ⟨v, hv⟩ : ∃ v, v = s.extract k s.size := ⟨_, rfl⟩
  have hvd : v.data.toList = s.data.toList.drop k := by rw [hv]; exact ext_drop _ _
  rw [← hv] at hx
  have hu : (s.extract 0 k).data.toList = s.data.toList.take k := ext_take _ _
  have HV := Lib.hid hv
  have HX := Lib.hid hx
  have Hd := Lib.hid hd
  have HU := Lib.hid hu
  have HVD := Lib.hid hvd
  clear hu hv hx hd hvd
  have hdn : d ≤ 128 := by have := Hd.out; omega
  rcases key with ⟨h1, hk0⟩ | ⟨h1, h2, hk0⟩ | ⟨h1, h2, h4, hk0⟩ | ⟨h1, h2, h4, hk0⟩
  · have h3 : N ≤ s.size := by omega
    have HK0 := Lib.hid hk0
    clear hk0 HV HX HU HVD
    go_enter Try.func16, Try.ntmps16
    go_wp2
    obtain ⟨u, hu⟩ : ∃ u : ByteArray, u = ByteArray.empty := ⟨_, rfl⟩
    rw [← hu]
    have HU := Lib.hid (show u.data.toList = s.data.toList.take k by rw [hu, HK0.out]; rfl)
    have hvs : s.size = d := by have := Hd.out; have := HK0.out; omega
    have HVD := Lib.hid (show s.data.toList = s.data.toList.drop k by rw [HK0.out]; rfl)
    clear hu
    have HD := H.out.setRow s (by omega)
    have HF := Fr.one w B 2 (.string s)
    clear c0 c1 c2 f2
    generalize w.setCell ⟨B, 2, none⟩ (.string s) = w2 at *
    obtain ⟨-, c1, c2⟩ := HD.cells
    have HD2 := Lib.hid HD
    have HF2 := Lib.hid HF
    clear HD HF
    by_cases hd0 : d = 0
    · have e1 : ((s.size : Int) == 0) = true := by rw [hvs, hd0]; rfl
      by_cases hw0 : wr = 0
      · have e2 : ((wr : Int) == 0) = true := by rw [hw0]; rfl
        have E := Lib.hid (show (decide (d = 0) && decide (wr = 0)) = true by simp [hd0, hw0])
        clear hd0 hw0 hvs
        go_quiet (fail)
        go_wp2
        go_ret2
        exact ⟨u, s, HU.out, HVD.out, ret_pair rfl (by rw [E.out]; rfl), HD2.out.fr (S := fun _ => False) ((Fr.refl _ _).drewN _) id, HF2.out.drewN _⟩
      · have e2 : ((wr : Int) == 0) = false := by simp [hw0]
        have E := Lib.hid (show (decide (d = 0) && decide (wr = 0)) = false by simp [hd0, hw0])
        clear hd0 hw0 hvs
        go_quiet (fail)
        go_wp2
        go_ret2
        exact ⟨u, s, HU.out, HVD.out, ret_pair rfl (by rw [E.out]; rfl), HD2.out.fr (S := fun _ => False) ((Fr.refl _ _).drewN _) id, HF2.out.drewN _⟩
    · have e1 : ((s.size : Int) == 0) = false := by rw [hvs]; simp [hd0]
      have E := Lib.hid (show (decide (d = 0) && decide (wr = 0)) = false by simp [hd0])
      clear hd0 hvs
      go_quiet (fail)
      go_wp2
      go_ret2
      exact ⟨u, s, HU.out, HVD.out, ret_pair rfl (by rw [E.out]; rfl), HD2.out.fr (S := fun _ => False) ((Fr.refl _ _).drewN _) id, HF2.out.drewN _⟩
  · have h3 : 0 ≤ N := by omega
    obtain rfl : N = (k : Int) := by omega
    go_enter Try.func16, Try.ntmps16
    go_wp2
    rw [← HV.out]
    obtain ⟨u, hu⟩ : ∃ u : ByteArray, u = s.extract 0 k := ⟨_, rfl⟩
    rw [← hu] at HU ⊢
    have hvs := HX.out
    clear hu
    have HD := H.out.setRow v (by omega)
    have HF := Fr.one w B 2 (.string v)
    clear c0 c1 c2 f2
    generalize w.setCell ⟨B, 2, none⟩ (.string v) = w2 at *
    obtain ⟨-, c1, c2⟩ := HD.cells
    have HD2 := Lib.hid HD
    have HF2 := Lib.hid HF
    clear HD HF
    by_cases hd0 : d = 0
    · have e1 : ((v.size : Int) == 0) = true := by rw [hvs, hd0]; rfl
      by_cases hw0 : wr = 0
      · have e2 : ((wr : Int) == 0) = true := by rw [hw0]; rfl
        have E := Lib.hid (show (decide (d = 0) && decide (wr = 0)) = true by simp [hd0, hw0])
        clear hd0 hw0 hvs
        go_quiet (fail)
        go_wp2
        go_ret2
        exact ⟨u, v, HU.out, HVD.out, ret_pair rfl (by rw [E.out]; rfl), HD2.out.fr (S := fun _ => False) ((Fr.refl _ _).drewN _) id, HF2.out.drewN _⟩
      · have e2 : ((wr : Int) == 0) = false := by simp [hw0]
        have E := Lib.hid (show (decide (d = 0) && decide (wr = 0)) = false by simp [hd0, hw0])
        clear hd0 hw0 hvs
        go_quiet (fail)
        go_wp2
        go_ret2
        exact ⟨u, v, HU.out, HVD.out, ret_pair rfl (by rw [E.out]; rfl), HD2.out.fr (S := fun _ => False) ((Fr.refl _ _).drewN _) id, HF2.out.drewN _⟩
    · have e1 : ((v.size : Int) == 0) = false := by rw [hvs]; simp [hd0]
      have E := Lib.hid (show (decide (d = 0) && decide (wr = 0)) = false by simp [hd0])
      clear hd0 hvs
      go_quiet (fail)
      go_wp2
      go_ret2
      exact ⟨u, v, HU.out, HVD.out, ret_pair rfl (by rw [E.out]; rfl), HD2.out.fr (S := fun _ => False) ((Fr.refl _ _).drewN _) id, HF2.out.drewN _⟩
  · have h3 : 0 ≤ N := by omega
    have HK0 := Lib.hid hk0
    clear hk0 HV HX HU HVD
    go_enter Try.func16, Try.ntmps16
    go_wp2
    obtain ⟨v, hv⟩ : ∃ v : ByteArray, v = ByteArray.empty := ⟨_, rfl⟩
    rw [← hv]
    have HU := Lib.hid (show s.data.toList = s.data.toList.take k by rw [HK0.out, List.take_of_length_le (by rw [data_len]; exact Nat.le_refl _)])
    have hvs : v.size = d := by have := Hd.out; have := HK0.out; rw [hv]; show 0 = d; omega
    have HVD := Lib.hid (show v.data.toList = s.data.toList.drop k by rw [hv, HK0.out, List.drop_eq_nil_of_le (by rw [data_len]; exact Nat.le_refl _)]; rfl)
    clear hv
    have HD := H.out.setRow v (by omega)
    have HF := Fr.one w B 2 (.string v)
    clear c0 c1 c2 f2
    generalize w.setCell ⟨B, 2, none⟩ (.string v) = w2 at *
    obtain ⟨-, c1, c2⟩ := HD.cells
    have HD2 := Lib.hid HD
    have HF2 := Lib.hid HF
    clear HD HF
    by_cases hd0 : d = 0
    · have e1 : ((v.size : Int) == 0) = true := by rw [hvs, hd0]; rfl
      by_cases hw0 : wr = 0
      · have e2 : ((wr : Int) == 0) = true := by rw [hw0]; rfl
        have E := Lib.hid (show (decide (d = 0) && decide (wr = 0)) = true by simp [hd0, hw0])
        clear hd0 hw0 hvs
        go_quiet (fail)
        go_wp2
        go_ret2
        exact ⟨s, v, HU.out, HVD.out, ret_pair rfl (by rw [E.out]; rfl), HD2.out.fr (S := fun _ => False) ((Fr.refl _ _).drewN _) id, HF2.out.drewN _⟩
      · have e2 : ((wr : Int) == 0) = false := by simp [hw0]
        have E := Lib.hid (show (decide (d = 0) && decide (wr = 0)) = false by simp [hd0, hw0])
        clear hd0 hw0 hvs
        go_quiet (fail)
        go_wp2
        go_ret2
        exact ⟨s, v, HU.out, HVD.out, ret_pair rfl (by rw [E.out]; rfl), HD2.out.fr (S := fun _ => False) ((Fr.refl _ _).drewN _) id, HF2.out.drewN _⟩
    · have e1 : ((v.size : Int) == 0) = false := by rw [hvs]; simp [hd0]
      have E := Lib.hid (show (decide (d = 0) && decide (wr = 0)) = false by simp [hd0])
      clear hd0 hvs
      go_quiet (fail)
      go_wp2
      go_ret2
      exact ⟨s, v, HU.out, HVD.out, ret_pair rfl (by rw [E.out]; rfl), HD2.out.fr (S := fun _ => False) ((Fr.refl _ _).drewN _) id, HF2.out.drewN _⟩
  · have h3 : 0 ≤ N := by omega
    have HK0 := Lib.hid hk0
    clear hk0 HV HX HU HVD
    go_enter Try.func16, Try.ntmps16
    go_wp2
    obtain ⟨u, hu⟩ : ∃ u : ByteArray, u = ByteArray.empty := ⟨_, rfl⟩
    rw [← hu]
    have HU := Lib.hid (show u.data.toList = s.data.toList.take k by rw [hu, HK0.out, show s.size = 0 by omega]; rfl)
    have hvs : s.size = d := by have := Hd.out; have := HK0.out; omega
    have HVD := Lib.hid (show s.data.toList = s.data.toList.drop k by rw [HK0.out, show s.size = 0 by omega]; rfl)
    clear hu
    have HD := H.out.setRow s (by omega)
    have HF := Fr.one w B 2 (.string s)
    clear c0 c1 c2 f2
    generalize w.setCell ⟨B, 2, none⟩ (.string s) = w2 at *
    obtain ⟨-, c1, c2⟩ := HD.cells
    have HD2 := Lib.hid HD
    have HF2 := Lib.hid HF
    clear HD HF
    by_cases hd0 : d = 0
    · have e1 : ((s.size : Int) == 0) = true := by rw [hvs, hd0]; rfl
      by_cases hw0 : wr = 0
      · have e2 : ((wr : Int) == 0) = true := by rw [hw0]; rfl
        have E := Lib.hid (show (decide (d = 0) && decide (wr = 0)) = true by simp [hd0, hw0])
        clear hd0 hw0 hvs
        go_quiet (fail)
        go_wp2
        go_ret2
        exact ⟨u, s, HU.out, HVD.out, ret_pair rfl (by rw [E.out]; rfl), HD2.out.fr (S := fun _ => False) ((Fr.refl _ _).drewN _) id, HF2.out.drewN _⟩
      · have e2 : ((wr : Int) == 0) = false := by simp [hw0]
        have E := Lib.hid (show (decide (d = 0) && decide (wr = 0)) = false by simp [hd0, hw0])
        clear hd0 hw0 hvs
        go_quiet (fail)
        go_wp2
        go_ret2
        exact ⟨u, s, HU.out, HVD.out, ret_pair rfl (by rw [E.out]; rfl), HD2.out.fr (S := fun _ => False) ((Fr.refl _ _).drewN _) id, HF2.out.drewN _⟩
    · have e1 : ((s.size : Int) == 0) = false := by rw [hvs]; simp [hd0]
      have E := Lib.hid (show (decide (d = 0) && decide (wr = 0)) = false by simp [hd0])
      clear hd0 hvs
      go_quiet (fail)
      go_wp2
      go_ret2
      exact ⟨u, s, HU.out, HVD.out, ret_pair rfl (by rw [E.out]; rfl), HD2.out.fr (S := fun _ => False) ((Fr.refl _ _).drewN _) id, HF2.out.drewN _⟩
end Go.Proofs.Ythgjhpiajjamnaa
