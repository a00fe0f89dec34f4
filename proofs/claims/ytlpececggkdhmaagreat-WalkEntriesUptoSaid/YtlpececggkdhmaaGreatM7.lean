import Derived.BigRegion
import Derived.Sort.Walk0
import Derived.Test.YtlpececggkdhmaaGreatM1
import Derived.Test.YtlpececggkdhmaaGreatM5
open Go.Lib (hid)
set_option linter.unusedVariables false
set_option linter.unusedSimpArgs false
namespace Go.Proofs.YtlpececggkdhmaaGreat
section
open Go.RowKit Ino
def rMake (kind mode owner group tty : Int) : Bool := decide (0 ≤ kind ∧ kind ≤ 2) && rMode mode && rId owner && rId group && (decide (kind ≠ 2) || decide (0 ≤ tty ∧ tty < 4))
def makeV (a : Nat × Nat) : Value := .tuple #[.int .i64 a.1, .int .i64 a.2]
def mkRel (t : T) (i : Value) : Prop := ∃ k : Nat, 1 ≤ k ∧ k ≤ 201 ∧ i = .int .i64 k ∧ ∀ j, 1 ≤ j → j < k → (t j).is = true
set_option maxHeartbeats 2000000 in
set_option maxRecDepth 100000 in
theorem make_any {A B : Nat} {own : Nat → Prop} {t : T} (kind mode owner group tty : Int) (w : World) (h : RT w A B own t) :
 Calls Tryz.prog 122 #[.pointer (some ⟨A, 0, none⟩), .int .i64 kind, .int .i64 mode, .int .i64 owner, .int .i64 group, .int .i64 tty] w fun e w' =>
  e = .returned (makeV (makeP t (rMake kind mode owner group tty) kind mode owner group tty).2) ∧ RT w' A B own (makeP t (rMake kind mode owner group tty) kind mode owner group tty).1 ∧ Fr (· = B) w w' := by
 have htop := h.top
 have H := hid h
 have h1 := fun W => mright_any mode W
 have h2 := fun W => iid_any owner W
 have h3 := fun W => iid_any group W
 by_cases k0 : kind < 0
 ·have Hr := hid (show makeP t (rMake kind mode owner group tty) kind mode owner group tty = (t, 0, 1) by unfold makeP rMake; rw [decide_eq_false (by omega)]; rfl)
  generalize rMode mode = b1 at h1
  clear h
  go_enter Tryz.func122, Tryz.ntmps122
  go_wp2_with (first | (go_at_call 34; refine (h1 _).mono ?_; rintro e w' ⟨rfl, rfl⟩))
  go_ret2
  exact ⟨by rw [Hr.out]; rfl, by rw [Hr.out]; exact H.out, Fr.refl _ _⟩
 by_cases k2 : kind > 2
 ·have Hr := hid (show makeP t (rMake kind mode owner group tty) kind mode owner group tty = (t, 0, 1) by unfold makeP rMake; rw [decide_eq_false (by omega)]; rfl)
  generalize rMode mode = b1 at h1
  clear h
  go_enter Tryz.func122, Tryz.ntmps122
  go_wp2_with (first | (go_at_call 34; refine (h1 _).mono ?_; rintro e w' ⟨rfl, rfl⟩))
  go_ret2
  exact ⟨by rw [Hr.out]; rfl, by rw [Hr.out]; exact H.out, Fr.refl _ _⟩
 have hk : decide (0 ≤ kind ∧ kind ≤ 2) = true := decide_eq_true (by omega)
 cases e1 : rMode mode
 ·have Hr := hid (show makeP t (rMake kind mode owner group tty) kind mode owner group tty = (t, 0, 1) by unfold makeP rMake; rw [hk, e1]; rfl)
  rw [e1] at h1
  clear h hk e1
  go_enter Tryz.func122, Tryz.ntmps122
  go_wp2_with (first | (go_at_call 34; refine (h1 _).mono ?_; rintro e w' ⟨rfl, rfl⟩))
  go_ret2
  exact ⟨by rw [Hr.out]; rfl, by rw [Hr.out]; exact H.out, Fr.refl _ _⟩
 cases e2 : rId owner
 ·have Hr := hid (show makeP t (rMake kind mode owner group tty) kind mode owner group tty = (t, 0, 1) by unfold makeP rMake; rw [hk, e1, e2]; rfl)
  rw [e1] at h1
  rw [e2] at h2
  clear h hk e1 e2
  go_enter Tryz.func122, Tryz.ntmps122
  go_wp2_with (first | (go_at_call 34; refine (h1 _).mono ?_; rintro e w' ⟨rfl, rfl⟩) | (go_at_call 35; (with_reducible refine (h2 _).mono ?_); rintro e w' ⟨rfl, rfl⟩))
  go_ret2
  exact ⟨by rw [Hr.out]; rfl, by rw [Hr.out]; exact H.out, Fr.refl _ _⟩
 cases e3 : rId group
 ·have Hr := hid (show makeP t (rMake kind mode owner group tty) kind mode owner group tty = (t, 0, 1) by unfold makeP rMake; rw [hk, e1, e2, e3]; rfl)
  rw [e1] at h1
  rw [e2] at h2
  rw [e3] at h3
  clear h hk e1 e2 e3
  go_enter Tryz.func122, Tryz.ntmps122
  go_wp2_with (first | (go_at_call 34; refine (h1 _).mono ?_; rintro e w' ⟨rfl, rfl⟩) | (go_at_call 35; (with_reducible refine (h2 _).mono ?_); rintro e w' ⟨rfl, rfl⟩) | (go_at_call 35; (with_reducible refine (h3 _).mono ?_); rintro e w' ⟨rfl, rfl⟩))
  go_ret2
  exact ⟨by rw [Hr.out]; rfl, by rw [Hr.out]; exact H.out, Fr.refl _ _⟩
 by_cases hq : kind = 2 ∧ ¬ (0 ≤ tty ∧ tty < 4)
 ·have Hr := hid (show makeP t (rMake kind mode owner group tty) kind mode owner group tty = (t, 0, 1) by unfold makeP rMake; rw [hk, e1, e2, e3, decide_eq_false (show ¬ kind ≠ 2 by omega), decide_eq_false hq.2]; rfl)
  obtain ⟨rfl, hq⟩ := hq
  rw [e1] at h1
  rw [e2] at h2
  rw [e3] at h3
  clear h hk e1 e2 e3
  by_cases t0 : tty < 0
  all_goals
   go_enter Tryz.func122, Tryz.ntmps122
   go_wp2_with (first | (go_at_call 34; refine (h1 _).mono ?_; rintro e w' ⟨rfl, rfl⟩) | (go_at_call 35; (with_reducible refine (h2 _).mono ?_); rintro e w' ⟨rfl, rfl⟩) | (go_at_call 35; (with_reducible refine (h3 _).mono ?_); rintro e w' ⟨rfl, rfl⟩))
   go_ret2
   exact ⟨by rw [Hr.out]; rfl, by rw [Hr.out]; exact H.out, Fr.refl _ _⟩
 have Hok := hid (show rMake kind mode owner group tty = true by unfold rMake; rw [hk, e1, e2, e3]; by_cases c : kind = 2 <;> simp [c] <;> omega)
 rw [e1] at h1
 rw [e2] at h2
 rw [e3] at h3
 clear hk e1 e2 e3
 have hkk : kind = 0 ∨ kind = 1 ∨ (kind = 2 ∧ 0 ≤ tty ∧ tty < 4) := by omega
 clear hq k0 k2
 rcases hkk with rfl | rfl | ⟨rfl, t0, t4⟩
 ·go_enter Tryz.func122, Tryz.ntmps122
  go_wp2_with (first | (go_at_call 34; refine (h1 _).mono ?_; rintro e w' ⟨rfl, rfl⟩) | (go_at_call 35; (with_reducible refine (h2 _).mono ?_); rintro e w' ⟨rfl, rfl⟩) | (go_at_call 35; (with_reducible refine (h3 _).mono ?_); rintro e w' ⟨rfl, rfl⟩))
  go_loop [15] (fun i => mkRel t i) (fun i => 201 - (intOf i).toNat)
  case atStart => exact ⟨1, by omega, by omega, rfl, fun j h1 h2 => by omega⟩
  case round =>
   obtain ⟨k, hk1, hk2, rfl, hno⟩ := hrel
   have Hno := hid hno
   clear hno h1 h2 h3
   by_cases hk3 : k ≤ 200
   ·obtain ⟨p, cap, c0, -, -, -, -, -, -, -, -, -, -, -, -⟩ := h.cells k hk3
    cases hi : (t k).is
    ·rw [hi] at c0
     have hlt := h.lt
     obtain ⟨W1, hW1⟩ : ∃ W1, w.alloc (.cells #[.bool true, .int .i64 0, .int .i64 mode, .int .i64 owner, .int .i64 group, .int .i64 0, .int .i64 1, .int .i64 0, .string ⟨#[]⟩, .slice none 0 0] 82) = W1 := ⟨_, rfl⟩
     have hF : Fr (fun _ => False) w W1 := by rw [← hW1]; exact (Fr.refl _ w).alloc _
     have hR := h.fr hF fun _ _ _ => id
     have N : ∀ (j : Nat) (v : Value), ([.bool true, .int .i64 0, .int .i64 mode, .int .i64 owner, .int .i64 group, .int .i64 0, .int .i64 1, .int .i64 0, .string ⟨#[]⟩, .slice none 0 0] : List Value)[j]? = some v → W1.cell? ⟨w.heap.size, j, none⟩ = some v := fun j v hv => by
      rw [← hW1, cell_of_row _ w.heap.size j _ _ (0, 0) (heap_alloc_new w _)]
      simpa using hv
     have n0 := N 0 _ rfl
     have n1 := N 1 _ rfl
     have n2 := N 2 _ rfl
     have n3 := N 3 _ rfl
     have n4 := N 4 _ rfl
     have n5 := N 5 _ rfl
     have n6 := N 6 _ rfl
     have n7 := N 7 _ rfl
     have n8 := N 8 _ rfl
     have n9 := N 9 _ rfl
     have htop1 := hR.top
     obtain ⟨p1, cap1, d0, d1, d2, d3, d4, d5, d6, d7, d8, d9, -, -, -⟩ := hR.cells k hk3
     have z0 := hR.frozen (k * 10)
     have z1 := hR.frozen (k * 10 + 1)
     have z2 := hR.frozen (k * 10 + 2)
     have z3 := hR.frozen (k * 10 + 3)
     have z4 := hR.frozen (k * 10 + 4)
     have z5 := hR.frozen (k * 10 + 5)
     have z6 := hR.frozen (k * 10 + 6)
     have z7 := hR.frozen (k * 10 + 7)
     have z8 := hR.frozen (k * 10 + 8)
     have z9 := hR.frozen (k * 10 + 9)
     have hn := hR.set10 k hk3 (madeN 0 mode owner group tty k) (.slice none 0 0) (EntsAt.nil _ _ _ _)
     rw [show (madeN 0 mode owner group tty k).is = true from rfl, show (madeN 0 mode owner group tty k).kind = 0 from rfl, show (madeN 0 mode owner group tty k).mode = mode from rfl, show (madeN 0 mode owner group tty k).owner = owner from rfl, show (madeN 0 mode owner group tty k).group = group from rfl, show (madeN 0 mode owner group tty k).tty = 0 from rfl, show ((madeN 0 mode owner group tty k).holds : Int) = 1 from rfl, show ((madeN 0 mode owner group tty k).parent : Int) = 0 from rfl, show (madeN 0 mode owner group tty k).data = [] from rfl] at hn
     have Hn := hid (hn.fr (S := fun _ => False) (Fr.refl _ _).drew fun _ _ _ => id)
     have Hr := hid (show makeP t (rMake 0 mode owner group tty) 0 mode owner group tty = (upd t k (madeN 0 mode owner group tty k), k, 0) by
      unfold makeP; rw [Hok.out, if_pos rfl, show freeP t = some k from freeUp_is hk1 (by omega) hi fun j hj1 hj2 => Hno.out j hj1 hj2])
     have HF := hid hF
     have i8 : (0 : Int) ≤ (k : Int) := by omega
     have i9 : (k : Int) < 201 := by omega
     have hnB : B < w.heap.size := hlt.2
     have HW1 := hid hW1
     clear N hR hn hF h hi Hno hW1
     go_wp2
     rw [HW1.out]
     clear HW1 c0 htop
     generalize w.heap.size = nb at n0 n1 n2 n3 n4 n5 n6 n7 n8 n9 hnB hlt ⊢
     go_region
     go_wp2
     go_ret2
     rw [Hr.out]
     exact ⟨by rfl, Hn.out, ((((((((((((HF.out.mono fun _ _ h => h.elim).setB _ _).setB _ _).setB _ _).setB _ _).setB _ _).setB _ _).setB _ _).setB _ _).setB _ _).setB _ _).drew)⟩
    ·rw [hi] at c0
     go_wp2
     go_round
     case rel =>
      refine ⟨k + 1, by omega, by omega, by go_num, fun j hj1 hj2 => ?_⟩
      by_cases ej : j = k
      ·rw [ej]; exact hi
      ·exact Hno.out j hj1 (by omega)
     case measure => simp [intOf]; omega
   ·have Hr := hid (show makeP t (rMake 0 mode owner group tty) 0 mode owner group tty = (t, 0, 9) by
     unfold makeP; rw [Hok.out, if_pos rfl, show freeP t = none from freeUp_full fun j hj1 hj2 => Hno.out j hj1 (by omega)])
    go_wp2
    go_ret2
    exact ⟨by rw [Hr.out]; rfl, by rw [Hr.out]; exact H.out, Fr.refl _ _⟩
 ·go_enter Tryz.func122, Tryz.ntmps122
  go_wp2_with (first | (go_at_call 34; refine (h1 _).mono ?_; rintro e w' ⟨rfl, rfl⟩) | (go_at_call 35; (with_reducible refine (h2 _).mono ?_); rintro e w' ⟨rfl, rfl⟩) | (go_at_call 35; (with_reducible refine (h3 _).mono ?_); rintro e w' ⟨rfl, rfl⟩))
  go_loop [15] (fun i => mkRel t i) (fun i => 201 - (intOf i).toNat)
  case atStart => exact ⟨1, by omega, by omega, rfl, fun j h1 h2 => by omega⟩
  case round =>
   obtain ⟨k, hk1, hk2, rfl, hno⟩ := hrel
   have Hno := hid hno
   clear hno h1 h2 h3
   by_cases hk3 : k ≤ 200
   ·obtain ⟨p, cap, c0, -, -, -, -, -, -, -, -, -, -, -, -⟩ := h.cells k hk3
    cases hi : (t k).is
    ·rw [hi] at c0
     have hlt := h.lt
     obtain ⟨W1, hW1⟩ : ∃ W1, w.alloc (.cells #[.bool true, .int .i64 1, .int .i64 mode, .int .i64 owner, .int .i64 group, .int .i64 0, .int .i64 1, .int .i64 k, .string ⟨#[]⟩, .slice none 0 0] 82) = W1 := ⟨_, rfl⟩
     have hF : Fr (fun _ => False) w W1 := by rw [← hW1]; exact (Fr.refl _ w).alloc _
     have hR := h.fr hF fun _ _ _ => id
     have N : ∀ (j : Nat) (v : Value), ([.bool true, .int .i64 1, .int .i64 mode, .int .i64 owner, .int .i64 group, .int .i64 0, .int .i64 1, .int .i64 k, .string ⟨#[]⟩, .slice none 0 0] : List Value)[j]? = some v → W1.cell? ⟨w.heap.size, j, none⟩ = some v := fun j v hv => by
      rw [← hW1, cell_of_row _ w.heap.size j _ _ (0, 0) (heap_alloc_new w _)]
      simpa using hv
     have n0 := N 0 _ rfl
     have n1 := N 1 _ rfl
     have n2 := N 2 _ rfl
     have n3 := N 3 _ rfl
     have n4 := N 4 _ rfl
     have n5 := N 5 _ rfl
     have n6 := N 6 _ rfl
     have n7 := N 7 _ rfl
     have n8 := N 8 _ rfl
     have n9 := N 9 _ rfl
     have htop1 := hR.top
     obtain ⟨p1, cap1, d0, d1, d2, d3, d4, d5, d6, d7, d8, d9, -, -, -⟩ := hR.cells k hk3
     have z0 := hR.frozen (k * 10)
     have z1 := hR.frozen (k * 10 + 1)
     have z2 := hR.frozen (k * 10 + 2)
     have z3 := hR.frozen (k * 10 + 3)
     have z4 := hR.frozen (k * 10 + 4)
     have z5 := hR.frozen (k * 10 + 5)
     have z6 := hR.frozen (k * 10 + 6)
     have z7 := hR.frozen (k * 10 + 7)
     have z8 := hR.frozen (k * 10 + 8)
     have z9 := hR.frozen (k * 10 + 9)
     have hn := hR.set10 k hk3 (madeN 1 mode owner group tty k) (.slice none 0 0) (EntsAt.nil _ _ _ _)
     rw [show (madeN 1 mode owner group tty k).is = true from rfl, show (madeN 1 mode owner group tty k).kind = 1 from rfl, show (madeN 1 mode owner group tty k).mode = mode from rfl, show (madeN 1 mode owner group tty k).owner = owner from rfl, show (madeN 1 mode owner group tty k).group = group from rfl, show (madeN 1 mode owner group tty k).tty = 0 from rfl, show ((madeN 1 mode owner group tty k).holds : Int) = 1 from rfl, show ((madeN 1 mode owner group tty k).parent : Int) = k from rfl, show (madeN 1 mode owner group tty k).data = [] from rfl] at hn
     have Hn := hid (hn.fr (S := fun _ => False) (Fr.refl _ _).drew fun _ _ _ => id)
     have Hr := hid (show makeP t (rMake 1 mode owner group tty) 1 mode owner group tty = (upd t k (madeN 1 mode owner group tty k), k, 0) by
      unfold makeP; rw [Hok.out, if_pos rfl, show freeP t = some k from freeUp_is hk1 (by omega) hi fun j hj1 hj2 => Hno.out j hj1 hj2])
     have HF := hid hF
     have i8 : (0 : Int) ≤ (k : Int) := by omega
     have i9 : (k : Int) < 201 := by omega
     have hnB : B < w.heap.size := hlt.2
     have HW1 := hid hW1
     clear N hR hn hF h hi Hno hW1
     go_wp2
     rw [HW1.out]
     clear HW1 c0 htop
     generalize w.heap.size = nb at n0 n1 n2 n3 n4 n5 n6 n7 n8 n9 hnB hlt ⊢
     go_region
     go_wp2
     go_ret2
     rw [Hr.out]
     exact ⟨by rfl, Hn.out, ((((((((((((HF.out.mono fun _ _ h => h.elim).setB _ _).setB _ _).setB _ _).setB _ _).setB _ _).setB _ _).setB _ _).setB _ _).setB _ _).setB _ _).drew)⟩
    ·rw [hi] at c0
     go_wp2
     go_round
     case rel =>
      refine ⟨k + 1, by omega, by omega, by go_num, fun j hj1 hj2 => ?_⟩
      by_cases ej : j = k
      ·rw [ej]; exact hi
      ·exact Hno.out j hj1 (by omega)
     case measure => simp [intOf]; omega
   ·have Hr := hid (show makeP t (rMake 1 mode owner group tty) 1 mode owner group tty = (t, 0, 9) by
     unfold makeP; rw [Hok.out, if_pos rfl, show freeP t = none from freeUp_full fun j hj1 hj2 => Hno.out j hj1 (by omega)])
    go_wp2
    go_ret2
    exact ⟨by rw [Hr.out]; rfl, by rw [Hr.out]; exact H.out, Fr.refl _ _⟩
 ·go_enter Tryz.func122, Tryz.ntmps122
  go_wp2_with (first | (go_at_call 34; refine (h1 _).mono ?_; rintro e w' ⟨rfl, rfl⟩) | (go_at_call 35; (with_reducible refine (h2 _).mono ?_); rintro e w' ⟨rfl, rfl⟩) | (go_at_call 35; (with_reducible refine (h3 _).mono ?_); rintro e w' ⟨rfl, rfl⟩))
  go_loop [15] (fun i => mkRel t i) (fun i => 201 - (intOf i).toNat)
  case atStart => exact ⟨1, by omega, by omega, rfl, fun j h1 h2 => by omega⟩
  case round =>
   obtain ⟨k, hk1, hk2, rfl, hno⟩ := hrel
   have Hno := hid hno
   clear hno h1 h2 h3
   by_cases hk3 : k ≤ 200
   ·obtain ⟨p, cap, c0, -, -, -, -, -, -, -, -, -, -, -, -⟩ := h.cells k hk3
    cases hi : (t k).is
    ·rw [hi] at c0
     have hlt := h.lt
     obtain ⟨W1, hW1⟩ : ∃ W1, w.alloc (.cells #[.bool true, .int .i64 2, .int .i64 mode, .int .i64 owner, .int .i64 group, .int .i64 tty, .int .i64 1, .int .i64 0, .string ⟨#[]⟩, .slice none 0 0] 82) = W1 := ⟨_, rfl⟩
     have hF : Fr (fun _ => False) w W1 := by rw [← hW1]; exact (Fr.refl _ w).alloc _
     have hR := h.fr hF fun _ _ _ => id
     have N : ∀ (j : Nat) (v : Value), ([.bool true, .int .i64 2, .int .i64 mode, .int .i64 owner, .int .i64 group, .int .i64 tty, .int .i64 1, .int .i64 0, .string ⟨#[]⟩, .slice none 0 0] : List Value)[j]? = some v → W1.cell? ⟨w.heap.size, j, none⟩ = some v := fun j v hv => by
      rw [← hW1, cell_of_row _ w.heap.size j _ _ (0, 0) (heap_alloc_new w _)]
      simpa using hv
     have n0 := N 0 _ rfl
     have n1 := N 1 _ rfl
     have n2 := N 2 _ rfl
     have n3 := N 3 _ rfl
     have n4 := N 4 _ rfl
     have n5 := N 5 _ rfl
     have n6 := N 6 _ rfl
     have n7 := N 7 _ rfl
     have n8 := N 8 _ rfl
     have n9 := N 9 _ rfl
     have htop1 := hR.top
     obtain ⟨p1, cap1, d0, d1, d2, d3, d4, d5, d6, d7, d8, d9, -, -, -⟩ := hR.cells k hk3
     have z0 := hR.frozen (k * 10)
     have z1 := hR.frozen (k * 10 + 1)
     have z2 := hR.frozen (k * 10 + 2)
     have z3 := hR.frozen (k * 10 + 3)
     have z4 := hR.frozen (k * 10 + 4)
     have z5 := hR.frozen (k * 10 + 5)
     have z6 := hR.frozen (k * 10 + 6)
     have z7 := hR.frozen (k * 10 + 7)
     have z8 := hR.frozen (k * 10 + 8)
     have z9 := hR.frozen (k * 10 + 9)
     have hn := hR.set10 k hk3 (madeN 2 mode owner group tty k) (.slice none 0 0) (EntsAt.nil _ _ _ _)
     rw [show (madeN 2 mode owner group tty k).is = true from rfl, show (madeN 2 mode owner group tty k).kind = 2 from rfl, show (madeN 2 mode owner group tty k).mode = mode from rfl, show (madeN 2 mode owner group tty k).owner = owner from rfl, show (madeN 2 mode owner group tty k).group = group from rfl, show (madeN 2 mode owner group tty k).tty = tty from rfl, show ((madeN 2 mode owner group tty k).holds : Int) = 1 from rfl, show ((madeN 2 mode owner group tty k).parent : Int) = 0 from rfl, show (madeN 2 mode owner group tty k).data = [] from rfl] at hn
     have Hn := hid (hn.fr (S := fun _ => False) (Fr.refl _ _).drew fun _ _ _ => id)
     have Hr := hid (show makeP t (rMake 2 mode owner group tty) 2 mode owner group tty = (upd t k (madeN 2 mode owner group tty k), k, 0) by
      unfold makeP; rw [Hok.out, if_pos rfl, show freeP t = some k from freeUp_is hk1 (by omega) hi fun j hj1 hj2 => Hno.out j hj1 hj2])
     have HF := hid hF
     have i8 : (0 : Int) ≤ (k : Int) := by omega
     have i9 : (k : Int) < 201 := by omega
     have hnB : B < w.heap.size := hlt.2
     have HW1 := hid hW1
     clear N hR hn hF h hi Hno hW1
     go_wp2
     rw [HW1.out]
     clear HW1 c0 htop
     generalize w.heap.size = nb at n0 n1 n2 n3 n4 n5 n6 n7 n8 n9 hnB hlt ⊢
     go_region
     go_wp2
     go_ret2
     rw [Hr.out]
     exact ⟨by rfl, Hn.out, ((((((((((((HF.out.mono fun _ _ h => h.elim).setB _ _).setB _ _).setB _ _).setB _ _).setB _ _).setB _ _).setB _ _).setB _ _).setB _ _).setB _ _).drew)⟩
    ·rw [hi] at c0
     go_wp2
     go_round
     case rel =>
      refine ⟨k + 1, by omega, by omega, by go_num, fun j hj1 hj2 => ?_⟩
      by_cases ej : j = k
      ·rw [ej]; exact hi
      ·exact Hno.out j hj1 (by omega)
     case measure => simp [intOf]; omega
   ·have Hr := hid (show makeP t (rMake 2 mode owner group tty) 2 mode owner group tty = (t, 0, 9) by
     unfold makeP; rw [Hok.out, if_pos rfl, show freeP t = none from freeUp_full fun j hj1 hj2 => Hno.out j hj1 (by omega)])
    go_wp2
    go_ret2
    exact ⟨by rw [Hr.out]; rfl, by rw [Hr.out]; exact H.out, Fr.refl _ _⟩
end
section
open Go.RowKit Ino
def strC (n : Bs) : Value := .string ⟨n.toArray⟩
theorem Fr.own {a b : World} {g : Nat} (h : Fr (fun _ => False) a b) (hg : a.heap.size ≤ g) (j : Nat) (u : Value) : Fr (fun _ => False) a (b.setCell ⟨g, j, none⟩ u) := h.setCell (p := ⟨g, j, none⟩) (.inr hg) u
def nmsRel (l : List (Bs × Nat)) (w : World) (v i : Value) (wr : World) : Prop :=
 ∃ (j : Nat) (o : List Bs), j ≤ l.length ∧ i = .int .i64 j ∧ o.Perm ((l.take j).map (·.1)) ∧ o.Pairwise (· < ·) ∧ wr.ownsRow w.heap.size 9 1 v j (o.map strC) ∧ Fr (fun _ => False) w wr
def gapRel (o : List Bs) (nm : Bs) (w : World) (v kv : Value) (wr : World) : Prop :=
 ∃ (k : Nat) (c : Bs), k ≤ o.length ∧ kv = .int .i64 k ∧ wr.ownsRow w.heap.size 9 1 v (o.length + 1) ((gap o k c).map strC) ∧ (∀ x ∈ o.drop k, nm < x) ∧ Fr (fun _ => False) w wr
end
end Go.Proofs.YtlpececggkdhmaaGreat
