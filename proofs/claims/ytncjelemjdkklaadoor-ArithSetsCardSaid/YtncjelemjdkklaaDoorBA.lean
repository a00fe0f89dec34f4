/- The laws' shown. -/
import Derived.Test.YtncjelemjdkklaaDoorAZ
namespace Go.Proofs.YtncjelemjdkklaaDoor
open Go.RowKit
set_option linter.unusedVariables false
set_option linter.unusedSimpArgs false
theorem sh1 : valP [] [49, 32, 43, 32, 50, 32, 42, 32, 51] = (7, 0, []) := by decide +kernel
theorem sh2 : valP [([97], [52, 48])] [97, 32, 43, 61, 32, 50] = (42, 0, [([97], 42)]) := by decide +kernel
theorem sh3 : valP [] [48, 32, 38, 38, 32, 40, 120, 32, 61, 32, 49, 41] = (0, 0, []) := by decide +kernel
theorem sh4 : valP [] [49, 32, 47, 32, 48] = (0, 22, []) := by decide +kernel
theorem giv_nil (W : World) (B : Nat) : Giv W B (.slice none 0 0) [] := ⟨none, 0, rfl, Nat.le_refl _, Nat.zero_le _, fun i p h => by simp at h⟩
/-- Value at a text and no names; its results in the open. -/
theorem val_nil (t : Bs) (W : World) (ht : t.length ≤ maxLen) (henv : Env W) (v e : Int) (o : Own) (h : valP [] t = (v, e, o)) :
    Calls Tryd.prog 10 #[.string (st t), .slice none 0 0] W fun r w' => ∃ lo cap, r = .returned (.tuple #[.int .i64 v, .slice lo o.length cap, .int .i64 e]) ∧ w'.ownsRow W.heap.size 25 4 (.slice lo o.length cap) o.length (outC o) ∧ Below W.heap.size W w' ∧ Env w' :=
  (value_any (st t) (.slice none 0 0) [] W (by rw [st_size]; exact ht) (giv_nil _ _) henv).mono (by
    rintro r w' ⟨lv, rfl, ho, hb⟩
    rw [st_data, h] at ho ⊢
    obtain ⟨lo, cap, rfl, -, -⟩ := ownz_form ho
    exact ⟨lo, cap, rfl, ho, hb, henv.bel hb⟩)
theorem val_giv (t : Bs) (g : List (Bs × Bs)) (gv : Value) (W : World) (ht : t.length ≤ maxLen) (hg : Giv W W.heap.size gv g) (henv : Env W) (v e : Int) (o : Own) (h : valP g t = (v, e, o)) :
    Calls Tryd.prog 10 #[.string (st t), gv] W fun r w' => ∃ lo cap, r = .returned (.tuple #[.int .i64 v, .slice lo o.length cap, .int .i64 e]) ∧ w'.ownsRow W.heap.size 25 4 (.slice lo o.length cap) o.length (outC o) ∧ Below W.heap.size W w' ∧ Env w' :=
  (value_any (st t) gv g W (by rw [st_size]; exact ht) hg henv).mono (by
    rintro r w' ⟨lv, rfl, ho, hb⟩
    rw [st_data, h] at ho ⊢
    obtain ⟨lo, cap, rfl, -, -⟩ := ownz_form ho
    exact ⟨lo, cap, rfl, ho, hb, henv.bel hb⟩)
/-- a row of names and values, just made. -/
theorem giv_new1 (W : World) (a b : Bs) (hb : b.length ≤ maxLen) : Giv (W.alloc (.cells #[.string (st a), .string (st b), .bool false, .bool false] 25)) (W.alloc (.cells #[.string (st a), .string (st b), .bool false, .bool false] 25)).heap.size (.slice (some ⟨W.heap.size, 0, none⟩) 1 1) [(a, b)] := by
  have e := heap_alloc_new W (.cells #[.string (st a), .string (st b), .bool false, .bool false] 25)
  refine ⟨_, 1, rfl, Nat.le_refl _, by unfold maxLen; omega, fun i p hp => ?_⟩
  match i, hp with
  | 0, hp =>
    simp at hp
    subst hp
    refine ⟨hb, W.heap.size, 0, rfl, by simp, ?_, ?_, false, false, ?_, ?_⟩ <;> rw [Lib.cell_of_heap e] <;> rfl
theorem bel_next {W a b : World} (h : Below W.heap.size W a) (k : Below a.heap.size a b) : Below W.heap.size W b := h.trans (k.mono h.size)
theorem bel_new {W a : World} (h : Below W.heap.size W a) (o : Obj) : Below W.heap.size W (a.alloc o) := h.alloc h.size o
theorem sh5 : Lib.itoa 42 = [52, 50] := by decide +kernel
set_option maxRecDepth 100000 in
set_option maxHeartbeats 4000000 in
theorem shown_any (W : World) (henv : Env W) : Calls Tryd.prog 8 #[] W fun e w' => e = .returned (.bool true) ∧ Below W.heap.size W w' := by
  have H1 := Lib.hid (show Calls Tryd.prog 10 #[.string ⟨#[49, 32, 43, 32, 50, 32, 42, 32, 51]⟩, .slice none 0 0] W _ from val_nil _ W (by decide) henv _ _ _ sh1)
  have H2 := Lib.hid (fun (w1 : World) (he : Env w1) => show Calls Tryd.prog 10 #[.string ⟨#[97, 32, 43, 61, 32, 50]⟩, .slice (some ⟨w1.heap.size, 0, none⟩) 1 1] (w1.alloc (.cells #[.string ⟨#[97]⟩, .string ⟨#[52, 48]⟩, .bool false, .bool false] 25)) _ from
    val_giv [97, 32, 43, 61, 32, 50] [([97], [52, 48])] _ (w1.alloc (.cells #[.string (st [97]), .string (st [52, 48]), .bool false, .bool false] 25)) (by decide) (giv_new1 w1 [97] [52, 48] (by decide)) (he.bel ((Below.refl _ _).alloc (Nat.le_refl _) _)) _ _ _ sh2)
  have H3 := Lib.hid (fun (w1 : World) (he : Env w1) => show Calls Tryd.prog 10 #[.string ⟨#[48, 32, 38, 38, 32, 40, 120, 32, 61, 32, 49, 41]⟩, .slice none 0 0] w1 _ from val_nil _ w1 (by decide) he _ _ _ sh3)
  have H4 := Lib.hid (fun (w1 : World) (he : Env w1) => show Calls Tryd.prog 10 #[.string ⟨#[49, 32, 47, 32, 48]⟩, .slice none 0 0] w1 _ from val_nil _ w1 (by decide) he _ _ _ sh4)
  clear henv
  go_enter Tryd.func8, Tryd.ntmps8
  go_wp2_with (first
    | (go_at_call 10; (with_reducible refine H1.out.mono ?_); rintro e w1 ⟨lo1, cap1, rfl, -, hb1, he1⟩; have HB1 := Lib.hid hb1; have HE1 := Lib.hid he1; clear hb1 he1)
    | (go_at_call 10; (with_reducible refine (H2.out _ HE1.out).mono ?_); rintro e w2 ⟨lo2, cap2, rfl, ho2, hb2, he2⟩; have HB2 := Lib.hid hb2; have HE2 := Lib.hid he2; have HO2 := Lib.hid ho2; clear hb2 he2 ho2)
    | (go_at_call 10; (with_reducible refine (H3.out _ HE2.out).mono ?_); rintro e w3 ⟨lo3, cap3, rfl, -, hb3, he3⟩; have HB3 := Lib.hid hb3; have HE3 := Lib.hid he3; clear hb3 he3)
    | (go_at_call 10; (with_reducible refine (H4.out _ HE3.out).mono ?_); rintro e w4 ⟨lo4, cap4, rfl, -, hb4, he4⟩; have HB4 := Lib.hid hb4; clear hb4 he4
       obtain ⟨lo', cap2', hsl, hlc, hgb⟩ := ownz_form HO2.out
       cases hsl
       obtain ⟨gb, rfl⟩ := hgb (by decide)
       have hk := HO2.out.cellAt 1 (by decide)
       have hlt := (ownz_type HO2.out (k := gb) rfl).2.1
       have k1 : w4.cell? ⟨gb, 1, none⟩ = some (.string ⟨#[52, 50]⟩) := (by
         rw [(HB4.out).cell (p := ⟨gb, 1, none⟩) (Nat.lt_of_lt_of_le hlt HB3.out.size), HB3.out.cell (p := ⟨gb, 1, none⟩) hlt, hk]
         show some (Value.string (st (Lib.itoa 42))) = _
         rw [sh5]; rfl)
       clear hk))
  go_ret
  exact ⟨rfl, bel_next (bel_next (bel_next (bel_new HB1.out _) HB2.out) HB3.out) HB4.out⟩
end Go.Proofs.YtncjelemjdkklaaDoor
