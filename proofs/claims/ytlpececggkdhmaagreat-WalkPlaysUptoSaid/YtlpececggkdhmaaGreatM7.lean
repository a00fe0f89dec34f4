import Derived.BigRegion
import Derived.Sort.Walk0
import Derived.Test.YtlpececggkdhmaaGreatM1
import Derived.Test.YtlpececggkdhmaaGreatM5
open Go.Lib (hid)
set_option linter.unusedVariables false
set_option linter.unusedSimpArgs false
namespace Go.Proofs.YtlpececggkdhmaaGreat
section
open Go.RowKit Ino
def rMake (kind mode owner group tty : Int) : Bool := decide (0 ≤ kind ∧ kind ≤ 2) && rMode mode && rId owner && rId group && (decide (kind ≠ 2) || decide (0 ≤ tty ∧ tty < 4))
def makeV (a : Nat × Nat) : Value := .tuple #[.int .i64 a.1, .int .i64 a.2]
def mkRel (t : T) (i : Value) : Prop := ∃ k : Nat, 1 ≤ k ∧ k ≤ 201 ∧ i = .int .i64 k ∧ ∀ j, 1 ≤ j → j < k → (t j).is = true
set_option maxHeartbeats 2000000 in
set_option maxRecDepth 100000 in
theorem make_any {A B : Nat} {own : Nat → Prop} {t : T} (kind mode owner group tty : Int) (w : World) (h : RT w A B own t) :
 Calls Tryz.prog 122 #[.pointer (some ⟨A, 0, none⟩), .int .i64 kind, .int .i64 mode, .int .i64 owner, .int .i64 group, .int .i64 tty] w fun e w' =>
  e = .returned (makeV (makeP t (rMake kind mode owner group tty) kind mode owner group tty).2) ∧ RT w' A B own (makeP t (rMake kind mode owner group tty) kind mode owner group tty).1 ∧ Fr (· = B) w w' := by
 have htop := h.top
 have H := hid h
 have h1 := fun W => mright_any mode W
 have h2 := fun W => iid_any owner W
 have h3 := fun W => iid_any group W
 by_cases k0 : kind < 0
 ·have Hr := hid (show makeP t (rMake kind mode owner group tty) kind mode owner group tty = (t, 0, 1) by unfold makeP rMake; rw [decide_eq_false (by omega)]; rfl)
  generalize rMode mode = b1 at h1
  clear h
  go_enter Tryz.func122, Tryz.ntmps122
  go_wp2_with (first | (go_at_call 34; refine (h1 _).mono ?_; rintro e w' ⟨rfl, rfl⟩))
  go_ret2
  exact ⟨by rw [Hr.out]; rfl, by rw [Hr.out]; exact H.out, Fr.refl _ _⟩
 by_cases k2 : kind > 2
 ·have Hr := hid (show makeP t (rMake kind mode owner group tty) kind mode owner group tty = (t, 0, 1) by unfold makeP rMake; rw [decide_eq_false (by omega)]; rfl)
  generalize rMode mode = b1 at h1
  clear h
  go_enter Tryz.func122, Tryz.ntmps122
  go_wp2_with (first | (go_at_call 34; refine (h1 _).mono ?_; rintro e w' ⟨rfl, rfl⟩))
  go_ret2
  exact ⟨by rw [Hr.out]; rfl, by rw [Hr.out]; exact H.out, Fr.refl _ _⟩
 have hk : decide (0 ≤ kind ∧ kind ≤ 2) = true := decide_eq_true (by omega)
 cases e1 : rMode mode
 ·have Hr := hid (show makeP t (rMake kind mode owner group tty) kind mode owner group tty = (t, 0, 1) by unfold makeP rMake; rw [hk, e1]; rfl)
  rw [e1] at h1
  clear h hk e1
  go_enter Tryz.func122, Tryz.ntmps122
  go_wp2_with (first | (go_at_call 34; refine (h1 _).mono ?_; rintro e w' ⟨rfl, rfl⟩))
  go_ret2
  exact ⟨by rw [Hr.out]; rfl, by rw [Hr.out]; exact H.out, Fr.refl _ _⟩
 cases e2 : rId owner
 ·have Hr := hid (show makeP t (rMake kind mode owner group tty) kind mode owner group tty = (t, 0, 1) by unfold makeP rMake; rw [hk, e1, e2]; rfl)
  rw [e1] at h1
  rw [e2] at h2
  clear h hk e1 e2
  go_enter Tryz.func122, Tryz.ntmps122
  go_wp2_with (first | (go_at_call 34; refine (h1 _).mono ?_; rintro e w' ⟨rfl, rfl⟩) | (go_at_call 35; (with_reducible refine (h2 _).mono ?_); rintro e w' ⟨rfl, rfl⟩))
  go_ret2
  exact ⟨by rw [Hr.out]; rfl, by rw [Hr.out]; exact H.out, Fr.refl _ _⟩
 cases e3 : rId group
 ·have Hr := hid (show makeP t (rMake kind mode owner group tty) kind mode owner group tty = (t, 0, 1) by unfold makeP rMake; rw [hk, e1, e2, e3]; rfl)
  rw [e1] at h1
  rw [e2] at h2
  rw [e3] at h3
  clear h hk e1 e2 e3
  go_enter Tryz.func122, Tryz.ntmps122
  go_wp2_with (first | (go_at_call 34; refine (h1 _).mono ?_; rintro e w' ⟨rfl, rfl⟩) | (go_at_call 35; (with_reducible refine (h2 _).mono ?_); rintro e w' ⟨rfl, rfl⟩) | (go_at_call 35; (with_reducible refine (h3 _).mono ?_); rintro e w' ⟨rfl, rfl⟩))
  go_ret2
  exact ⟨by rw [Hr.out]; rfl, by rw [Hr.out]; exact H.out, Fr.refl _ _⟩
 by_cases hq : kind = 2 ∧ ¬ (0 ≤ tty ∧ tty < 4)
 ·have Hr := hid (show makeP t (rMake kind mode owner group tty) kind mode owner group tty = (t, 0, 1) by unfold makeP rMake; rw [hk, e1, e2, e3, decide_eq_false (show ¬ kind ≠ 2 by omega), decide_eq_false hq.2]; rfl)
  obtain ⟨rfl, hq⟩ := hq
  rw [e1] at h1
  rw [e2] at h2
  rw [e3] at h3
  clear h hk e1 e2 e3
  by_cases t0 : tty < 0
  all_goals
   go_enter Tryz.func122, Tryz.ntmps122
   go_wp2_with (first | (go_at_call 34; refine (h1 _).mono ?_; rintro e w' ⟨rfl, rfl⟩) | (go_at_call 35; (with_reducible refine (h2 _).mono ?_); rintro e w' ⟨rfl, rfl⟩) | (go_at_call 35; (with_reducible refine (h3 _).mono ?_); rintro e w' ⟨rfl, rfl⟩))
   go_ret2
   exact ⟨by rw [Hr.out]; rfl, by rw [Hr.out]; exact H.out, Fr.refl _ _⟩
 have Hok := hid (show rMake kind mode owner group tty = true by unfold rMake; rw [hk, e1, e2, e3]; by_cases c : kind = 2 <;> simp [c] <;> omega)
 rw [e1] at h1
 rw [e2] at h2
 rw [e3] at h3
 clear hk e1 e2 e3
 have hkk : kind = 0 ∨ kind = 1 ∨ (kind = 2 ∧ 0 ≤ tty ∧ tty < 4) := by omega
 clear hq k0 k2
 rcases hkk with rfl | rfl | ⟨rfl, t0, t4⟩
 ·go_enter Tryz.func122, Tryz.ntmps122
  go_wp2_with (first | (go_at_call 34; refine (h1 _).mono ?_; rintro e w' ⟨rfl, rfl⟩) | (go_at_call 35; (with_reducible refine (h2 _).mono ?_); rintro e w' ⟨rfl, rfl⟩) | (go_at_call 35; (with_reducible refine (h3 _).mono ?_); rintro e w' ⟨rfl, rfl⟩))
  go_loop [15] (fun i => mkRel t i) (fun i => 201 - (intOf i).toNat)
  case atStart => exact ⟨1, by omega, by omega, rfl, fun j h1 h2 => by omega⟩
  case round =>
   obtain ⟨k, hk1, hk2, rfl, hno⟩ := hrel
   have Hno := hid hno
   clear hno h1 h2 h3
   by_cases hk3 : k ≤ 200
   ·obtain ⟨p, cap, c0, -, -, -, -, -, -, -, -, -, -, -, -⟩ := h.cells k hk3
    cases hi : (t k).is
    ·rw [hi] at c0
     have hlt := h.lt
     obtain ⟨W1, hW1⟩ : ∃ W1, w.alloc (.cells #[.bool true, .int .i64 0, .int .i64 mode, .int .i64 owner, .int .i64 group, .int .i64 0, .int .i64 1, .int .i64 0, .string ⟨#[]⟩, .slice none 0 0] 82) = W1 := ⟨_, rfl⟩
     have hF : Fr (fun _ => False) w W1 := by rw [← hW1]; exact (Fr.refl _ w).alloc _
     have hR := h.fr hF fun _ _ _ => id
     have N : ∀ (j : Nat) (v : Value), ([.bool true, .int .i64 0, .int .i64 mode, .int .i64 owner, .int .i64 group, .int .i64 0, .int .i64 1, .int .i64 0, .string ⟨#[]⟩, .slice none 0 0] : List Value)[j]? = some v → W1.cell? ⟨w.heap.size, j, none⟩ = some v := fun j v hv => by
      rw [← hW1, cell_of_row _ w.heap.size j _ _ (0, 0) (heap_alloc_new w _)]
      simpa using hv
     have n0 := N 0 _ rfl
     have n1 := N 1 _ rfl
     have n2 := N 2 _ rfl
     have n3 := N 3 _ rfl
     have n4 := N 4 _ rfl
     have n5 := N 5 _ rfl
     have n6 := N 6 _ rfl
     have n7 := N 7 _ rfl
     have n8 := N 8 _ rfl
     have n9 := N 9 _ rfl
     have htop1 := hR.top
     obtain ⟨p1, cap1, d0, d1, d2, d3, d4, d5, d6, d7, d8, d9, -, -, -⟩ := hR.cells k hk3
     have z0 := hR.frozen (k * 10)
     have z1 := hR.frozen (k * 10 + 1)
     have z2 := hR.frozen (k * 10 + 2)
     have z3 := hR.frozen (k * 10 + 3)
     have z4 := hR.frozen (k * 10 + 4)
     have z5 := hR.frozen (k * 10 + 5)
     have z6 := hR.frozen (k * 10 + 6)
     have z7 := hR.frozen (k * 10 + 7)
     have z8 := hR.frozen (k * 10 + 8)
     have z9 := hR.frozen (k * 10 + 9)
     have hn := hR.set10 k hk3 (madeN 0 mode owner group tty k) (.slice none 0 0) (EntsAt.nil _ _ _ _)
     rw [show (madeN 0 mode owner group tty k).is = true from rfl, show (madeN 0 mode owner group tty k).kind = 0 from rfl, show (madeN 0 mode owner group tty k).mode = mode from rfl, show (madeN 0 mode owner group tty k).owner = owner from rfl, show (madeN 0 mode owner group tty k).group = group from rfl, show (madeN 0 mode owner group tty k).tty = 0 from rfl, show ((madeN 0 mode owner group tty k).holds : Int) = 1 from rfl, show ((madeN 0 mode owner group tty k).parent : Int) = 0 from rfl, show (madeN 0 mode owner group tty k).data = [] from rfl] at hn
     have Hn := hid (hn.fr (S := fun _ => False) (Fr.refl _ _).drew fun _ _ _ => id)
     have Hr := hid (show makeP t (rMake 0 mode owner group tty) 0 mode owner group tty = (upd t k (madeN 0 mode owner group tty k), k, 0) by
      unfold makeP; rw [Hok.out, if_pos rfl, show freeP t = some k from freeUp_is hk1 (by omega) hi fun j hj1 hj2 => Hno.out j hj1 hj2])
     have HF := hid hF
     have i8 : (0 : Int) ≤ (k : Int) := by omega
     have i9 : (k : Int) < 201 := by omega
     have hnB : B < w.heap.size := hlt.2
     have HW1 := hid hW1
     clear N hR hn hF h hi Hno hW1
     go_wp2
     rw [HW1.out]
     clear HW1 c0 htop
     generalize w.heap.size = nb at n0 n1 n2 n3 n4 n5 n6 n7 n8 n9 hnB hlt ⊢
     go_region
     go_wp2
     go_ret2
     rw [Hr.out]
     exact ⟨by rfl, Hn.out, ((((((((((((HF.out.mono fun _ _ h => h.elim).setB _ _).setB _ _).setB _ _).setB _ _).setB _ _).setB _ _).setB _ _).setB _ _).setB _ _).setB _ _).drew)⟩
    ·rw [hi] at c0
     go_wp2
     go_round
     case rel =>
      refine ⟨k + 1, by omega, by omega, by go_num, fun j hj1 hj2 => ?_⟩
      by_cases ej : j = k
      ·rw [ej]; exact hi
      ·exact Hno.out j hj1 (by omega)
     case measure => simp [intOf]; omega
   ·have Hr := hid (show makeP t (rMake 0 mode owner group tty) 0 mode owner group tty = (t, 0, 9) by
     unfold makeP; rw [Hok.out, if_pos rfl, show freeP t = none from freeUp_full fun j hj1 hj2 => Hno.out j hj1 (by omega)])
    go_wp2
    go_ret2
    exact ⟨by rw [Hr.out]; rfl, by rw [Hr.out]; exact H.out, Fr.refl _ _⟩
 ·go_enter Tryz.func122, Tryz.ntmps122
  go_wp2_with (first | (go_at_call 34; refine (h1 _).mono ?_; rintro e w' ⟨rfl, rfl⟩) | (go_at_call 35; (with_reducible refine (h2 _).mono ?_); rintro e w' ⟨rfl, rfl⟩) | (go_at_call 35; (with_reducible refine (h3 _).mono ?_); rintro e w' ⟨rfl, rfl⟩))
  go_loop [15] (fun i => mkRel t i) (fun i => 201 - (intOf i).toNat)
  case atStart => exact ⟨1, by omega, by omega, rfl, fun j h1 h2 => by omega⟩
  case round =>
   obtain ⟨k, hk1, hk2, rfl, hno⟩ := hrel
   have Hno := hid hno
   clear hno h1 h2 h3
   by_cases hk3 : k ≤ 200
   ·obtain ⟨p, cap, c0, -, -, -, -, -, -, -, -, -, -, -, -⟩ := h.cells k hk3
    cases hi : (t k).is
    ·rw [hi] at c0
     have hlt := h.lt
     obtain ⟨W1, hW1⟩ : ∃ W1, w.alloc (.cells #[.bool true, .int .i64 1, .int .i64 mode, .int .i64 owner, .int .i64 group, .int .i64 0, .int .i64 1, .int .i64 k, .string ⟨#[]⟩, .slice none 0 0] 82) = W1 := ⟨_, rfl⟩
     have hF : Fr (fun _ => False) w W1 := by rw [← hW1]; exact (Fr.refl _ w).alloc _
     have hR := h.fr hF fun _ _ _ => id
     have N : ∀ (j : Nat) (v : Value), ([.bool true, .int .i64 1, .int .i64 mode, .int .i64 owner, .int .i64 group, .int .i64 0, .int .i64 1, .int .i64 k, .string ⟨#[]⟩, .slice none 0 0] : List Value)[j]? = some v → W1.cell? ⟨w.heap.size, j, none⟩ = some v := fun j v hv => by
      rw [← hW1, cell_of_row _ w.heap.size j _ _ (0, 0) (heap_alloc_new w _)]
      simpa using hv
     have n0 := N 0 _ rfl
     have n1 := N 1 _ rfl
     have n2 := N 2 _ rfl
     have n3 := N 3 _ rfl
     have n4 := N 4 _ rfl
     have n5 := N 5 _ rfl
     have n6 := N 6 _ rfl
     have n7 := N 7 _ rfl
     have n8 := N 8 _ rfl
     have n9 := N 9 _ rfl
     have htop1 := hR.top
     obtain ⟨p1, cap1, d0, d1, d2, d3, d4, d5, d6, d7, d8, d9, -, -, -⟩ := hR.cells k hk3
     have z0 := hR.frozen (k * 10)
     have z1 := hR.frozen (k * 10 + 1)
     have z2 := hR.frozen (k * 10 + 2)
     have z3 := hR.frozen (k * 10 + 3)
     have z4 := hR.frozen (k * 10 + 4)
     have z5 := hR.frozen (k * 10 + 5)
     have z6 := hR.frozen (k * 10 + 6)
     have z7 := hR.frozen (k * 10 + 7)
     have z8 := hR.frozen (k * 10 + 8)
     have z9 := hR.frozen (k * 10 + 9)
     have hn := hR.set10 k hk3 (madeN 1 mode owner group tty k) (.slice none 0 0) (EntsAt.nil _ _ _ _)
     rw [show (madeN 1 mode owner group tty k).is = true from rfl, show (madeN 1 mode owner group tty k).kind = 1 from rfl, show (madeN 1 mode owner group tty k).mode = mode from rfl, show (madeN 1 mode owner group tty k).owner = owner from rfl, show (madeN 1 mode owner group tty k).group = group from rfl, show (madeN 1 mode owner group tty k).tty = 0 from rfl, show ((madeN 1 mode owner group tty k).holds : Int) = 1 from rfl, show ((madeN 1 mode owner group tty k).parent : Int) = k from rfl, show (madeN 1 mode owner group tty k).data = [] from rfl] at hn
     have Hn := hid (hn.fr (S := fun _ => False) (Fr.refl _ _).drew fun _ _ _ => id)
     have Hr := hid (show makeP t (rMake 1 mode owner group tty) 1 mode owner group tty = (upd t k (madeN 1 mode owner group tty k), k, 0) by
      unfold makeP; rw [Hok.out, if_pos rfl, show freeP t = some k from freeUp_is hk1 (by omega) hi fun j hj1 hj2 => Hno.out j hj1 hj2])
     have HF := hid hF
     have i8 : (0 : Int) ≤ (k : Int) := by omega
     have i9 : (k : Int) < 201 := by omega
     have hnB : B < w.heap.size := hlt.2
     have HW1 := hid hW1
     clear N hR hn hF h hi Hno hW1
     go_wp2
     rw [HW1.out]
     clear HW1 c0 htop
     generalize w.heap.size = nb at n0 n1 n2 n3 n4 n5 n6 n7 n8 n9 hnB hlt ⊢
     go_region
     go_wp2
     go_ret2
     rw [Hr.out]
     exact ⟨by rfl, Hn.out, ((((((((((((HF.out.mono fun _ _ h => h.elim).setB _ _).setB _ _).setB _ _).setB _ _).setB _ _).setB _ _).setB _ _).setB _ _).setB _ _).setB _ _).drew)⟩
    ·rw [hi] at c0
     go_wp2
     go_round
     case rel =>
      refine ⟨k + 1, by omega, by omega, by go_num, fun j hj1 hj2 => ?_⟩
      by_cases ej : j = k
      ·rw [ej]; exact hi
      ·exact Hno.out j hj1 (by omega)
     case measure => simp [intOf]; omega
   ·have Hr := hid (show makeP t (rMake 1 mode owner group tty) 1 mode owner group tty = (t, 0, 9) by
     unfold makeP; rw [Hok.out, if_pos rfl, show freeP t = none from freeUp_full fun j hj1 hj2 => Hno.out j hj1 (by omega)])
    go_wp2
    go_ret2
    exact ⟨by rw [Hr.out]; rfl, by rw [Hr.out]; exact H.out, Fr.refl _ _⟩
 ·go_enter Tryz.func122, Tryz.ntmps122
  go_wp2_with (first | (go_at_call 34; refine (h1 _).mono ?_; rintro e w' ⟨rfl, rfl⟩) | (go_at_call 35; (with_reducible refine (h2 _).mono ?_); rintro e w' ⟨rfl, rfl⟩) | (go_at_call 35; (with_reducible refine (h3 _).mono ?_); rintro e w' ⟨rfl, rfl⟩))
  go_loop [15] (fun i => mkRel t i) (fun i => 201 - (intOf i).toNat)
  case atStart => exact ⟨1, by omega, by omega, rfl, fun j h1 h2 => by omega⟩
  case round =>
   obtain ⟨k, hk1, hk2, rfl, hno⟩ := hrel
   have Hno := hid hno
   clear hno h1 h2 h3
   by_cases hk3 : k ≤ 200
   ·obtain ⟨p, cap, c0, -, -, -, -, -, -, -, -, -, -, -, -⟩ := h.cells k hk3
    cases hi : (t k).is
    ·rw [hi] at c0
     have hlt := h.lt
     obtain ⟨W1, hW1⟩ : ∃ W1, w.alloc (.cells #[.bool true, .int .i64 2, .int .i64 mode, .int .i64 owner, .int .i64 group, .int .i64 tty, .int .i64 1, .int .i64 0, .string ⟨#[]⟩, .slice none 0 0] 82) = W1 := ⟨_, rfl⟩
     have hF : Fr (fun _ => False) w W1 := by rw [← hW1]; exact (Fr.refl _ w).alloc _
     have hR := h.fr hF fun _ _ _ => id
     have N : ∀ (j : Nat) (v : Value), ([.bool true, .int .i64 2, .int .i64 mode, .int .i64 owner, .int .i64 group, .int .i64 tty, .int .i64 1, .int .i64 0, .string ⟨#[]⟩, .slice none 0 0] : List Value)[j]? = some v → W1.cell? ⟨w.heap.size, j, none⟩ = some v := fun j v hv => by
      rw [← hW1, cell_of_row _ w.heap.size j _ _ (0, 0) (heap_alloc_new w _)]
      simpa using hv
     have n0 := N 0 _ rfl
     have n1 := N 1 _ rfl
     have n2 := N 2 _ rfl
     have n3 := N 3 _ rfl
     have n4 := N 4 _ rfl
     have n5 := N 5 _ rfl
     have n6 := N 6 _ rfl
     have n7 := N 7 _ rfl
     have n8 := N 8 _ rfl
     have n9 := N 9 _ rfl
     have htop1 := hR.top
     obtain ⟨p1, cap1, d0, d1, d2, d3, d4, d5, d6, d7, d8, d9, -, -, -⟩ := hR.cells k hk3
     have z0 := hR.frozen (k * 10)
     have z1 := hR.frozen (k * 10 + 1)
     have z2 := hR.frozen (k * 10 + 2)
     have z3 := hR.frozen (k * 10 + 3)
     have z4 := hR.frozen (k * 10 + 4)
     have z5 := hR.frozen (k * 10 + 5)
     have z6 := hR.frozen (k * 10 + 6)
     have z7 := hR.frozen (k * 10 + 7)
     have z8 := hR.frozen (k * 10 + 8)
     have z9 := hR.frozen (k * 10 + 9)
     have hn := hR.set10 k hk3 (madeN 2 mode owner group tty k) (.slice none 0 0) (EntsAt.nil _ _ _ _)
     rw [show (madeN 2 mode owner group tty k).is = true from rfl, show (madeN 2 mode owner group tty k).kind = 2 from rfl, show (madeN 2 mode owner group tty k).mode = mode from rfl, show (madeN 2 mode owner group tty k).owner = owner from rfl, show (madeN 2 mode owner group tty k).group = group from rfl, show (madeN 2 mode owner group tty k).tty = tty from rfl, show ((madeN 2 mode owner group tty k).holds : Int) = 1 from rfl, show ((madeN 2 mode owner group tty k).parent : Int) = 0 from rfl, show (madeN 2 mode owner group tty k).data = [] from rfl] at hn
     have Hn := hid (hn.fr (S := fun _ => False) (Fr.refl _ _).drew fun _ _ _ => id)
     have Hr := hid (show makeP t (rMake 2 mode owner group tty) 2 mode owner group tty = (upd t k (madeN 2 mode owner group tty k), k, 0) by
      unfold makeP; rw [Hok.out, if_pos rfl, show freeP t = some k from freeUp_is hk1 (by omega) hi fun j hj1 hj2 => Hno.out j hj1 hj2])
     have HF := hid hF
     have i8 : (0 : Int) ≤ (k : Int) := by omega
     have i9 : (k : Int) < 201 := by omega
     have hnB : B < w.heap.size := hlt.2
     have HW1 := hid hW1
     clear N hR hn hF h hi Hno hW1
     go_wp2
     rw [HW1.out]
     clear HW1 c0 htop
     generalize w.heap.size = nb at n0 n1 n2 n3 n4 n5 n6 n7 n8 n9 hnB hlt ⊢
     go_region
     go_wp2
     go_ret2
     rw [Hr.out]
     exact ⟨by rfl, Hn.out, ((((((((((((HF.out.mono fun _ _ h => h.elim).setB _ _).setB _ _).setB _ _).setB _ _).setB _ _).setB _ _).setB _ _).setB _ _).setB _ _).setB _ _).drew)⟩
    ·rw [hi] at c0
     go_wp2
     go_round
     case rel =>
      refine ⟨k + 1, by omega, by omega, by go_num, fun j hj1 hj2 => ?_⟩
      by_cases ej : j = k
      ·rw [ej]; exact hi
      ·exact Hno.out j hj1 (by omega)
     case measure => simp [intOf]; omega
   ·have Hr := hid (show makeP t (rMake 2 mode owner group tty) 2 mode owner group tty = (t, 0, 9) by
     unfold makeP; rw [Hok.out, if_pos rfl, show freeP t = none from freeUp_full fun j hj1 hj2 => Hno.out j hj1 (by omega)])
    go_wp2
    go_ret2
    exact ⟨by rw [Hr.out]; rfl, by rw [Hr.out]; exact H.out, Fr.refl _ _⟩
end
section
open Go.RowKit Ino
def strC (n : Bs) : Value := .string ⟨n.toArray⟩
theorem infoStr : (Tryz.prog.info? 9).map (fun i => (i.zero, i.size, i.bytes)) = some (some (.string ByteArray.empty), 1, 16) := by kernel_rfl
theorem own_shape' {w : World} {base : Nat} {e : TypeId} {size : Nat} {v : Value} {n : Nat} {xs : List Value} (h : w.ownsRow base e size v n xs) (hn : 0 < n) :
 ∃ g cap, v = .slice (some ⟨g, 0, none⟩) n cap ∧ base ≤ g := by
 rcases h.2 with ⟨_, h0⟩ | ⟨g, cap, cur, hv, hg, _⟩
 ·omega
 ·exact ⟨g, cap, hv, hg⟩
theorem names_cell {w : World} {base g cap n : Nat} {l : List Bs} (h : w.ownsRow base 9 1 (.slice (some ⟨g, 0, none⟩) n cap) n (l.map strC)) {j : Nat} {x : Bs} (hx : l[j]? = some x) :
 w.cell? ⟨g, j, none⟩ = some (.string ⟨x.toArray⟩) := by
 have hl : l.length = n := by simpa using h.1
 have hj := (List.getElem?_eq_some_iff.1 hx).1
 rw [h.cellAt j (by omega), List.getElem?_map, hx]
 rfl
theorem names_store {w : World} {base g cap n : Nat} {l : List Bs} (h : w.ownsRow base 9 1 (.slice (some ⟨g, 0, none⟩) n cap) n (l.map strC)) (j : Nat) (x : Bs) :
 (w.setCell ⟨g, j, none⟩ (.string ⟨x.toArray⟩)).ownsRow base 9 1 (.slice (some ⟨g, 0, none⟩) n cap) n ((l.set j x).map strC) := by
 have := (h.stored j (strC x)).1
 rw [← List.map_set] at this
 exact this
theorem Fr.own {a b : World} {g : Nat} (h : Fr (fun _ => False) a b) (hg : a.heap.size ≤ g) (j : Nat) (u : Value) : Fr (fun _ => False) a (b.setCell ⟨g, j, none⟩ u) := h.setCell (p := ⟨g, j, none⟩) (.inr hg) u
theorem own_form {w : World} {base : Nat} {e : TypeId} {size : Nat} {v : Value} {n : Nat} {xs : List Value} (h : w.ownsRow base e size v n xs) : ∃ p cap, v = .slice p n cap := by
 rcases h.2 with ⟨hv, h0⟩ | ⟨g, cap, cur, hv, _⟩
 ·exact ⟨none, 0, by rw [hv, h0]⟩
 ·exact ⟨_, cap, hv⟩
theorem Fr.grow {a b b' c : World} {e : TypeId} {size : Nat} {v : Value} {n : Nat} {xs : List Value} (h : Fr (fun _ => False) a b) (hown : b'.ownsRow a.heap.size e size v n xs) (k : b.grownBy c v.ownBlock) : Fr (fun _ => False) a c := by
 rcases hown.2 with ⟨hv, _⟩ | ⟨g, cap, cur, hv, hg, _⟩
 ·rw [hv] at k
  exact h.trans ((Fr.of_grown k).mono fun x _ hx => by cases hx)
 ·rw [hv] at k
  exact h.into k hg
theorem news_str (W : World) : ∀ (j : Nat) (u : Value), ([.string ⟨#[]⟩] : List Value)[j]? = some u → (W.alloc (.cells #[.string ⟨#[]⟩] 9)).cell? ((⟨W.heap.size, 0, none⟩ : Addr).add j) = some u := by
 intro q u hq
 match q, hq with
 | 0, hq => simp at hq; subst hq; simp [Addr.add]
def nmsRel (l : List (Bs × Nat)) (w : World) (v i : Value) (wr : World) : Prop :=
 ∃ (j : Nat) (o : List Bs), j ≤ l.length ∧ i = .int .i64 j ∧ o.Perm ((l.take j).map (·.1)) ∧ o.Pairwise (· < ·) ∧ wr.ownsRow w.heap.size 9 1 v j (o.map strC) ∧ Fr (fun _ => False) w wr
def gapRel (o : List Bs) (nm : Bs) (w : World) (v kv : Value) (wr : World) : Prop :=
 ∃ (k : Nat) (c : Bs), k ≤ o.length ∧ kv = .int .i64 k ∧ wr.ownsRow w.heap.size 9 1 v (o.length + 1) ((gap o k c).map strC) ∧ (∀ x ∈ o.drop k, nm < x) ∧ Fr (fun _ => False) w wr
set_option maxHeartbeats 2000000 in
set_option maxRecDepth 100000 in
theorem names_any {A B : Nat} {own : Nat → Prop} {t : T} (i : Int) (w : World) (h : RT w A B own t) (hs : Sd t) :
 Calls Tryz.prog 50 #[.pointer (some ⟨A, 0, none⟩), .int .i64 i] w fun e w' => ∃ v, e = .returned v ∧ w'.ownsRow w.heap.size 9 1 v (namesP t i).length ((namesP t i).map strC) ∧ Fr (fun _ => False) w w' := by
 have htop := h.top
 have hc := is_any i w h
 cases hi : isI t i
 ·rw [hi] at hc
  have Hr := hid (show namesP t i = [] by unfold namesP; rw [hi, if_neg Bool.false_ne_true])
  clear h hi hs
  go_enter Tryz.func50, Tryz.ntmps50
  go_wp2_with (go_at_call 99; refine hc.mono ?_; rintro e w' ⟨rfl, rfl⟩)
  go_ret
  exact ⟨_, rfl, by rw [Hr.out]; exact World.ownsRow_nil _ _ _ _, Fr.refl _ _⟩
 ·rw [hi] at hc
  obtain ⟨k, rfl, h1, h2, hki⟩ := isI_nat hi
  obtain ⟨p, cap, -, -, -, -, -, -, -, -, -, c9, hl1, hl2, he⟩ := h.cells k h2
  have Hr := hid (show namesP t (k : Int) = namesE (t k).ents by unfold namesP; rw [hi, if_pos rfl, Int.toNat_natCast])
  have hlen := hs.len k
  have Hu := hid (hs.uniq k)
  have He := hid he
  unfold maxLen at hl2
  obtain ⟨i0, hi0, hz0, hz1, hz2⟩ := info_parts infoStr
  clear h hi hs hki he
  generalize (t k).ents = l at c9 hl1 hlen Hr Hu He
  have i8 : (0 : Int) ≤ (k : Int) := by omega
  have i9 : (k : Int) < 201 := by omega
  go_enter Tryz.func50, Tryz.ntmps50
  go_wp2_with (go_at_call 99; refine hc.mono ?_; rintro e w' ⟨rfl, rfl⟩)
  go_loopw [6, 8, 9] (fun v iv _ wr => nmsRel l w v iv wr) (fun _ iv _ _ => l.length - (intOf iv).toNat)
  case atStart => exact ⟨0, [], Nat.zero_le _, rfl, List.Perm.refl _, List.Pairwise.nil, World.ownsRow_nil _ _ _ _, Fr.refl _ _⟩
  case round =>
   rename World => wa
   obtain ⟨j, o, hj, rfl, hperm, hsort, hown, hF⟩ := hrel
   have hoj : o.length = j := by rw [hperm.length_eq, List.length_map, List.length_take]; omega
   have HF := hid hF
   obtain ⟨p6, c6, rfl⟩ := own_form hown
   have Hperm := hid hperm
   have Hsort := hid hsort
   clear hperm hsort
   by_cases hj2 : j < l.length
   ·have hej : l[j]? = some l[j] := List.getElem?_eq_getElem hj2
    obtain ⟨g, off, hp, -, -, -, e0, -⟩ := He.out j _ hej
    have hnu := Hu.out
    have hnot : l[j].1 ∉ o := fun hm => by
     have hm2 := Hperm.out.mem_iff.1 hm
     have hd : (l.map (·.1)) = (l.take j).map (·.1) ++ (l.drop j).map (·.1) := by rw [← List.map_append, List.take_append_drop]
     rw [hd, List.nodup_append] at hnu
     exact hnu.2.2 _ hm2 _ (by rw [List.drop_eq_getElem_cons hj2]; exact List.mem_cons_self) rfl
    have hstep : ((l.take (j + 1)).map (·.1)) = (l.take j).map (·.1) ++ [l[j].1] := by rw [List.take_add_one, hej, List.map_append]; rfl
    have Hstep := hid hstep
    have Hnot := hid hnot
    clear hnu hstep hnot hej
    generalize l[j].1 = nm at e0 Hstep Hnot
    subst hp
    go_wp2_with (at_builtin; refine wpList_append_own _ rfl _ _ 54 rfl w.heap.size 9 i0 (.string ByteArray.empty) 1 16 Tryz.underlying54 hi0 hz0 hz1 hz2 rfl (by decide) _ _ _ rfl (hown.alloc _) ⟨wa.heap.size, 0, none⟩ 1 1 [.string ⟨#[]⟩] rfl rfl (news_str wa) (by intro u hu; simp at hu; subst hu; rfl) (by unfold maxLen; omega) (by omega) (by have := HF.out.size; simp; omega) ?_; intro v' w1 hown' hgrow hat)
    have hF1 : Fr (fun _ => False) w w1 := (HF.out.alloc _).grow hown hgrow
    obtain ⟨g5, cap5, rfl, hg5⟩ := own_shape' hown' (by omega)
    have hgap : w1.ownsRow w.heap.size 9 1 (.slice (some ⟨g5, 0, none⟩) (j + 1) cap5) (o.length + 1) ((gap o o.length []).map strC) := by
     rw [gap_end, List.map_append, hoj]; exact hown'
    clear hown hown' hgrow htop hF
    go_wp2
    go_loopw [9] (fun kv wr => gapRel o nm w (.slice (some ⟨g5, 0, none⟩) (j + 1) cap5) kv wr) (fun kv _ => (intOf kv).toNat)
    case atStart => exact ⟨o.length, [], Nat.le_refl _, by rw [hoj], hgap, by rw [List.drop_length]; simp, hF1⟩
    case round =>
     rename World => wb
     obtain ⟨m, c, hm, rfl, hown2, hup, hF2⟩ := hrel
     have e1 := hF2.cell e0 id
     have Hup := hid hup
     clear hup hgap
     rw [hoj] at hown2
     have cm := names_cell hown2 (gap_at c hm)
     have fm := hown2.frozenAt m
     have hgl := gap_length o m c
     have hset := names_store hown2 m nm
     rw [gap_set c nm hm] at hset
     have hwr : IntKind.i64.wrap ((j : Int) + 1) = ((j + 1 : Nat) : Int) := by rw [IntKind.wrap_i64]; omega
     have Hset := hid hset
     have HF2 := hid hF2
     have fin : (∀ x, 0 < m → o[m - 1]? = some x → ¬ nm < x) → ∀ nq, nmsRel l w (.slice (some ⟨g5, 0, none⟩) (j + 1) cap5) (.int .i64 ((j : Int) + 1)) ((wb.drewN nq).setCell ⟨g5, m, none⟩ (.string ⟨nm.toArray⟩)) := fun hlow nq => by
      refine ⟨j + 1, gap o m nm, by omega, by push_cast; rfl, ?_, gap_sorted Hsort.out Hnot.out Hup.out hlow hm, ?_, (HF2.out.drewN nq).own hg5 _ _⟩
      ·rw [Hstep.out]
       exact ((gap_perm o m nm).trans (Hperm.out.cons _)).trans (List.perm_append_singleton _ _).symm
      ·exact Hset.out
     have Fin := hid fin
     clear fin hset hF2
     by_cases hm0 : m = 0
     ·subst hm0
      have Fin0 := hid (Fin.out fun x hx => by omega)
      go_wp2
      go_quiet (fail)
      go_wp2
      go_roundw
      case rel => exact Fin0.out _
      case measure => simp [intOf]; omega
     ·obtain ⟨q, rfl⟩ : ∃ q, m = q + 1 := ⟨m - 1, by omega⟩
      have hx : o[q]? = some o[q] := List.getElem?_eq_getElem (by omega)
      have cx := names_cell hown2 ((gap_low c (by omega) hm).trans hx)
      have hxo : o[q] ∈ o := List.getElem_mem (by omega)
      have hdrop : o.drop q = o[q] :: o.drop (q + 1) := List.drop_eq_getElem_cons (by omega)
      have hxn : o[q] ≠ nm := fun e => Hnot.out (by rw [← e]; exact hxo)
      have hst := names_store hown2 (q + 1) o[q]
      rw [gap_set c _ hm, gap_down _ hx] at hst
      have Hst := hid hst
      have Hx := hid hx
      have Hdrop := hid hdrop
      clear hst hx hdrop hxo
      generalize o[q] = x at cx hxn Hst Hx Hdrop
      have hbl := bytesLess_eq x nm
      have hbe : (x == nm) = false := by simp [hxn]
      have hw1 : IntKind.i64.wrap (((q + 1 : Nat) : Int) - 1) = (q : Int) := by rw [IntKind.wrap_i64]; omega
      have hq0 : (0 : Int) < ((q + 1 : Nat) : Int) := by omega
      cases hlt : decide (x < nm)
      ·rw [hlt] at hbl
       have Hgt := hid (show nm < x by
        by_cases k : nm < x
        ·exact k
        ·exact absurd (Ino.bs_eq_of (of_decide_eq_false hlt) k) hxn)
       clear hlt
       go_wp2
       go_quiet (fail)
       go_wp2
       go_roundw
       case rel => exact ⟨q, x, by omega, by go_num, by rw [hoj]; exact Hst.out, fun y hy => by
        rw [Hdrop.out] at hy
        rcases List.mem_cons.1 hy with rfl | hy
        ·exact Hgt.out
        ·exact Hup.out y hy, (HF2.out.drewN _).own hg5 _ _⟩
       case measure => simp [intOf]
      ·rw [hlt] at hbl
       have Hlt := hid (of_decide_eq_true hlt)
       clear hlt
       have Fin1 := hid (Fin.out fun y _ hy => by
        rw [Nat.add_sub_cancel, Hx.out] at hy
        cases hy
        exact Ino.bs_lt_asymm Hlt.out)
       go_wp2
       go_quiet (fail)
       go_wp2
       go_roundw
       case rel => exact Fin1.out _
       case measure => simp [intOf]; omega
   ·have hoo : o = namesE l := namesE_unique Hu.out (by have := Hperm.out; rw [List.take_of_length_le (by omega)] at this; exact this) Hsort.out
    have Hoo := hid hoo
    clear hoo
    go_wp2
    go_ret
    exact ⟨_, rfl, by rw [Hr.out, ← Hoo.out, hoj]; exact hown, HF.out⟩
end
end Go.Proofs.YtlpececggkdhmaaGreat

