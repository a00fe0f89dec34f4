/- Contracts of the program's ten levels. -/
import Derived.Test.YtbmnngliapmgfaaGreatDoorAI
namespace Go.Proofs.YtbmnngliapmgfaaGreatDoor
open Go.RowKit
set_option linter.unusedVariables false
set_option linter.unusedSimpArgs false
theorem strs_new (W : World) (cs : Array Value) (t : TypeId) (l : List Bs) (h : cs = (l.map cellS).toArray) : Strs (W.alloc (.cells cs t)) W.heap.size l := by
  subst h
  refine ⟨by simp, fun j u hj => ?_⟩
  have hl : j < l.length := (List.getElem?_eq_some_iff.1 hj).1
  have : (W.alloc (.cells (l.map cellS).toArray t)).cell? ⟨W.heap.size, j, none⟩ = some ((l.map cellS).toArray[j]'(by simpa using hl)) := by
    rw [World.cell?_alloc_at _ _ _ _ (by simp [hl])]
    exact Array.getElem?_eq_getElem _
  rw [this]
  simp only [List.getElem_toArray, List.getElem_map]
  rw [(List.getElem?_eq_some_iff.1 hj).2]
set_option maxHeartbeats 1000000 in
theorem lev0_any (pb f : Nat) (hop : ∀ q, q ≤ f → Does pb q (opK 0) 65) : Does pb (f + 1) (.lev 0) 50 := by
  intro o ts W h hf
  have hF : Fr (· = pb) W (W.alloc (.cells #[.string ⟨#[124, 124]⟩] 9)) := (Fr.refl _ _).alloc _
  have hL := level_any pb f 0 65 W.heap.size 1 (by decide) (by funext w; kernel_rfl) hop o ts (W.alloc (.cells #[.string ⟨#[124, 124]⟩] 9)) (h.fr (S := fun _ => False) ((Fr.refl _ _).alloc _) (fun _ _ => id)) (strs_new W _ _ (lev 0) rfl) (by have := h.lt; omega) hf
  have HL : Hid (Calls Tryz.prog 64 #[.pointer (some ⟨pb, 0, none⟩), .func (.func 65) #[.pointer (some ⟨pb, 0, none⟩)] #[], .slice (some ⟨W.heap.size, 0, none⟩) 1 1] (W.alloc (.cells #[.string ⟨#[124, 124]⟩] 9)) (ndPost pb o W (pP (f + 1) (.lev 0) o ts))) := Lib.hid (hL.mono fun e w' hp => ndPost.fr hF hp)
  have hmf : ∀ (fn : Fn) (first cap : Array Value) (w : World), (Instr.makeFunc fn first cap).run Tryz.prog w = .ok (.func fn first cap) w := fun _ _ _ _ => rfl
  clear hL hF h hop hf
  generalize pP (f + 1) (.lev 0) o ts = R at *
  go_enter Tryz.func50, Tryz.ntmps50
  cases R with
  | none =>
    go_wp2_with (go_at_call 64; (with_reducible refine HL.out.mono ?_); rintro e w1 ⟨rfl, hP, hF⟩; have HP1 := Lib.hid hP; have HF1 := Lib.hid hF; clear hP hF)
    exact ⟨rfl, rfl, HP1.out, HF1.out⟩
  | some x =>
    go_wp2_with (go_at_call 64; (with_reducible refine HL.out.mono ?_); rintro e w1 ⟨rfl, hP, hF⟩; have HP1 := Lib.hid hP; have HF1 := Lib.hid hF; clear hP hF)
    go_ret
    exact ⟨rfl, HP1.out, HF1.out⟩
set_option maxHeartbeats 1000000 in
theorem lev1_any (pb f : Nat) (hop : ∀ q, q ≤ f → Does pb q (opK 1) 74) : Does pb (f + 1) (.lev 1) 65 := by
  intro o ts W h hf
  have hF : Fr (· = pb) W (W.alloc (.cells #[.string ⟨#[38, 38]⟩] 9)) := (Fr.refl _ _).alloc _
  have hL := level_any pb f 1 74 W.heap.size 1 (by decide) (by funext w; kernel_rfl) hop o ts (W.alloc (.cells #[.string ⟨#[38, 38]⟩] 9)) (h.fr (S := fun _ => False) ((Fr.refl _ _).alloc _) (fun _ _ => id)) (strs_new W _ _ (lev 1) rfl) (by have := h.lt; omega) hf
  have HL : Hid (Calls Tryz.prog 64 #[.pointer (some ⟨pb, 0, none⟩), .func (.func 74) #[.pointer (some ⟨pb, 0, none⟩)] #[], .slice (some ⟨W.heap.size, 0, none⟩) 1 1] (W.alloc (.cells #[.string ⟨#[38, 38]⟩] 9)) (ndPost pb o W (pP (f + 1) (.lev 1) o ts))) := Lib.hid (hL.mono fun e w' hp => ndPost.fr hF hp)
  have hmf : ∀ (fn : Fn) (first cap : Array Value) (w : World), (Instr.makeFunc fn first cap).run Tryz.prog w = .ok (.func fn first cap) w := fun _ _ _ _ => rfl
  clear hL hF h hop hf
  generalize pP (f + 1) (.lev 1) o ts = R at *
  go_enter Tryz.func65, Tryz.ntmps65
  cases R with
  | none =>
    go_wp2_with (go_at_call 64; (with_reducible refine HL.out.mono ?_); rintro e w1 ⟨rfl, hP, hF⟩; have HP1 := Lib.hid hP; have HF1 := Lib.hid hF; clear hP hF)
    exact ⟨rfl, rfl, HP1.out, HF1.out⟩
  | some x =>
    go_wp2_with (go_at_call 64; (with_reducible refine HL.out.mono ?_); rintro e w1 ⟨rfl, hP, hF⟩; have HP1 := Lib.hid hP; have HF1 := Lib.hid hF; clear hP hF)
    go_ret
    exact ⟨rfl, HP1.out, HF1.out⟩
set_option maxHeartbeats 1000000 in
theorem lev2_any (pb f : Nat) (hop : ∀ q, q ≤ f → Does pb q (opK 2) 82) : Does pb (f + 1) (.lev 2) 74 := by
  intro o ts W h hf
  have hF : Fr (· = pb) W (W.alloc (.cells #[.string ⟨#[124]⟩] 9)) := (Fr.refl _ _).alloc _
  have hL := level_any pb f 2 82 W.heap.size 1 (by decide) (by funext w; kernel_rfl) hop o ts (W.alloc (.cells #[.string ⟨#[124]⟩] 9)) (h.fr (S := fun _ => False) ((Fr.refl _ _).alloc _) (fun _ _ => id)) (strs_new W _ _ (lev 2) rfl) (by have := h.lt; omega) hf
  have HL : Hid (Calls Tryz.prog 64 #[.pointer (some ⟨pb, 0, none⟩), .func (.func 82) #[.pointer (some ⟨pb, 0, none⟩)] #[], .slice (some ⟨W.heap.size, 0, none⟩) 1 1] (W.alloc (.cells #[.string ⟨#[124]⟩] 9)) (ndPost pb o W (pP (f + 1) (.lev 2) o ts))) := Lib.hid (hL.mono fun e w' hp => ndPost.fr hF hp)
  have hmf : ∀ (fn : Fn) (first cap : Array Value) (w : World), (Instr.makeFunc fn first cap).run Tryz.prog w = .ok (.func fn first cap) w := fun _ _ _ _ => rfl
  clear hL hF h hop hf
  generalize pP (f + 1) (.lev 2) o ts = R at *
  go_enter Tryz.func74, Tryz.ntmps74
  cases R with
  | none =>
    go_wp2_with (go_at_call 64; (with_reducible refine HL.out.mono ?_); rintro e w1 ⟨rfl, hP, hF⟩; have HP1 := Lib.hid hP; have HF1 := Lib.hid hF; clear hP hF)
    exact ⟨rfl, rfl, HP1.out, HF1.out⟩
  | some x =>
    go_wp2_with (go_at_call 64; (with_reducible refine HL.out.mono ?_); rintro e w1 ⟨rfl, hP, hF⟩; have HP1 := Lib.hid hP; have HF1 := Lib.hid hF; clear hP hF)
    go_ret
    exact ⟨rfl, HP1.out, HF1.out⟩
set_option maxHeartbeats 1000000 in
theorem lev3_any (pb f : Nat) (hop : ∀ q, q ≤ f → Does pb q (opK 3) 84) : Does pb (f + 1) (.lev 3) 82 := by
  intro o ts W h hf
  have hF : Fr (· = pb) W (W.alloc (.cells #[.string ⟨#[94]⟩] 9)) := (Fr.refl _ _).alloc _
  have hL := level_any pb f 3 84 W.heap.size 1 (by decide) (by funext w; kernel_rfl) hop o ts (W.alloc (.cells #[.string ⟨#[94]⟩] 9)) (h.fr (S := fun _ => False) ((Fr.refl _ _).alloc _) (fun _ _ => id)) (strs_new W _ _ (lev 3) rfl) (by have := h.lt; omega) hf
  have HL : Hid (Calls Tryz.prog 64 #[.pointer (some ⟨pb, 0, none⟩), .func (.func 84) #[.pointer (some ⟨pb, 0, none⟩)] #[], .slice (some ⟨W.heap.size, 0, none⟩) 1 1] (W.alloc (.cells #[.string ⟨#[94]⟩] 9)) (ndPost pb o W (pP (f + 1) (.lev 3) o ts))) := Lib.hid (hL.mono fun e w' hp => ndPost.fr hF hp)
  have hmf : ∀ (fn : Fn) (first cap : Array Value) (w : World), (Instr.makeFunc fn first cap).run Tryz.prog w = .ok (.func fn first cap) w := fun _ _ _ _ => rfl
  clear hL hF h hop hf
  generalize pP (f + 1) (.lev 3) o ts = R at *
  go_enter Tryz.func82, Tryz.ntmps82
  cases R with
  | none =>
    go_wp2_with (go_at_call 64; (with_reducible refine HL.out.mono ?_); rintro e w1 ⟨rfl, hP, hF⟩; have HP1 := Lib.hid hP; have HF1 := Lib.hid hF; clear hP hF)
    exact ⟨rfl, rfl, HP1.out, HF1.out⟩
  | some x =>
    go_wp2_with (go_at_call 64; (with_reducible refine HL.out.mono ?_); rintro e w1 ⟨rfl, hP, hF⟩; have HP1 := Lib.hid hP; have HF1 := Lib.hid hF; clear hP hF)
    go_ret
    exact ⟨rfl, HP1.out, HF1.out⟩
set_option maxHeartbeats 1000000 in
theorem lev4_any (pb f : Nat) (hop : ∀ q, q ≤ f → Does pb q (opK 4) 86) : Does pb (f + 1) (.lev 4) 84 := by
  intro o ts W h hf
  have hF : Fr (· = pb) W (W.alloc (.cells #[.string ⟨#[38]⟩] 9)) := (Fr.refl _ _).alloc _
  have hL := level_any pb f 4 86 W.heap.size 1 (by decide) (by funext w; kernel_rfl) hop o ts (W.alloc (.cells #[.string ⟨#[38]⟩] 9)) (h.fr (S := fun _ => False) ((Fr.refl _ _).alloc _) (fun _ _ => id)) (strs_new W _ _ (lev 4) rfl) (by have := h.lt; omega) hf
  have HL : Hid (Calls Tryz.prog 64 #[.pointer (some ⟨pb, 0, none⟩), .func (.func 86) #[.pointer (some ⟨pb, 0, none⟩)] #[], .slice (some ⟨W.heap.size, 0, none⟩) 1 1] (W.alloc (.cells #[.string ⟨#[38]⟩] 9)) (ndPost pb o W (pP (f + 1) (.lev 4) o ts))) := Lib.hid (hL.mono fun e w' hp => ndPost.fr hF hp)
  have hmf : ∀ (fn : Fn) (first cap : Array Value) (w : World), (Instr.makeFunc fn first cap).run Tryz.prog w = .ok (.func fn first cap) w := fun _ _ _ _ => rfl
  clear hL hF h hop hf
  generalize pP (f + 1) (.lev 4) o ts = R at *
  go_enter Tryz.func84, Tryz.ntmps84
  cases R with
  | none =>
    go_wp2_with (go_at_call 64; (with_reducible refine HL.out.mono ?_); rintro e w1 ⟨rfl, hP, hF⟩; have HP1 := Lib.hid hP; have HF1 := Lib.hid hF; clear hP hF)
    exact ⟨rfl, rfl, HP1.out, HF1.out⟩
  | some x =>
    go_wp2_with (go_at_call 64; (with_reducible refine HL.out.mono ?_); rintro e w1 ⟨rfl, hP, hF⟩; have HP1 := Lib.hid hP; have HF1 := Lib.hid hF; clear hP hF)
    go_ret
    exact ⟨rfl, HP1.out, HF1.out⟩
set_option maxHeartbeats 1000000 in
theorem lev5_any (pb f : Nat) (hop : ∀ q, q ≤ f → Does pb q (opK 5) 87) : Does pb (f + 1) (.lev 5) 86 := by
  intro o ts W h hf
  have hF : Fr (· = pb) W (W.alloc (.cells #[.string ⟨#[61, 61]⟩, .string ⟨#[33, 61]⟩] 9)) := (Fr.refl _ _).alloc _
  have hL := level_any pb f 5 87 W.heap.size 2 (by decide) (by funext w; kernel_rfl) hop o ts (W.alloc (.cells #[.string ⟨#[61, 61]⟩, .string ⟨#[33, 61]⟩] 9)) (h.fr (S := fun _ => False) ((Fr.refl _ _).alloc _) (fun _ _ => id)) (strs_new W _ _ (lev 5) rfl) (by have := h.lt; omega) hf
  have HL : Hid (Calls Tryz.prog 64 #[.pointer (some ⟨pb, 0, none⟩), .func (.func 87) #[.pointer (some ⟨pb, 0, none⟩)] #[], .slice (some ⟨W.heap.size, 0, none⟩) 2 2] (W.alloc (.cells #[.string ⟨#[61, 61]⟩, .string ⟨#[33, 61]⟩] 9)) (ndPost pb o W (pP (f + 1) (.lev 5) o ts))) := Lib.hid (hL.mono fun e w' hp => ndPost.fr hF hp)
  have hmf : ∀ (fn : Fn) (first cap : Array Value) (w : World), (Instr.makeFunc fn first cap).run Tryz.prog w = .ok (.func fn first cap) w := fun _ _ _ _ => rfl
  clear hL hF h hop hf
  generalize pP (f + 1) (.lev 5) o ts = R at *
  go_enter Tryz.func86, Tryz.ntmps86
  cases R with
  | none =>
    go_wp2_with (go_at_call 64; (with_reducible refine HL.out.mono ?_); rintro e w1 ⟨rfl, hP, hF⟩; have HP1 := Lib.hid hP; have HF1 := Lib.hid hF; clear hP hF)
    exact ⟨rfl, rfl, HP1.out, HF1.out⟩
  | some x =>
    go_wp2_with (go_at_call 64; (with_reducible refine HL.out.mono ?_); rintro e w1 ⟨rfl, hP, hF⟩; have HP1 := Lib.hid hP; have HF1 := Lib.hid hF; clear hP hF)
    go_ret
    exact ⟨rfl, HP1.out, HF1.out⟩
set_option maxHeartbeats 1000000 in
theorem lev6_any (pb f : Nat) (hop : ∀ q, q ≤ f → Does pb q (opK 6) 88) : Does pb (f + 1) (.lev 6) 87 := by
  intro o ts W h hf
  have hF : Fr (· = pb) W (W.alloc (.cells #[.string ⟨#[60]⟩, .string ⟨#[60, 61]⟩, .string ⟨#[62]⟩, .string ⟨#[62, 61]⟩] 9)) := (Fr.refl _ _).alloc _
  have hL := level_any pb f 6 88 W.heap.size 4 (by decide) (by funext w; kernel_rfl) hop o ts (W.alloc (.cells #[.string ⟨#[60]⟩, .string ⟨#[60, 61]⟩, .string ⟨#[62]⟩, .string ⟨#[62, 61]⟩] 9)) (h.fr (S := fun _ => False) ((Fr.refl _ _).alloc _) (fun _ _ => id)) (strs_new W _ _ (lev 6) rfl) (by have := h.lt; omega) hf
  have HL : Hid (Calls Tryz.prog 64 #[.pointer (some ⟨pb, 0, none⟩), .func (.func 88) #[.pointer (some ⟨pb, 0, none⟩)] #[], .slice (some ⟨W.heap.size, 0, none⟩) 4 4] (W.alloc (.cells #[.string ⟨#[60]⟩, .string ⟨#[60, 61]⟩, .string ⟨#[62]⟩, .string ⟨#[62, 61]⟩] 9)) (ndPost pb o W (pP (f + 1) (.lev 6) o ts))) := Lib.hid (hL.mono fun e w' hp => ndPost.fr hF hp)
  have hmf : ∀ (fn : Fn) (first cap : Array Value) (w : World), (Instr.makeFunc fn first cap).run Tryz.prog w = .ok (.func fn first cap) w := fun _ _ _ _ => rfl
  clear hL hF h hop hf
  generalize pP (f + 1) (.lev 6) o ts = R at *
  go_enter Tryz.func87, Tryz.ntmps87
  cases R with
  | none =>
    go_wp2_with (go_at_call 64; (with_reducible refine HL.out.mono ?_); rintro e w1 ⟨rfl, hP, hF⟩; have HP1 := Lib.hid hP; have HF1 := Lib.hid hF; clear hP hF)
    exact ⟨rfl, rfl, HP1.out, HF1.out⟩
  | some x =>
    go_wp2_with (go_at_call 64; (with_reducible refine HL.out.mono ?_); rintro e w1 ⟨rfl, hP, hF⟩; have HP1 := Lib.hid hP; have HF1 := Lib.hid hF; clear hP hF)
    go_ret
    exact ⟨rfl, HP1.out, HF1.out⟩
set_option maxHeartbeats 1000000 in
theorem lev7_any (pb f : Nat) (hop : ∀ q, q ≤ f → Does pb q (opK 7) 89) : Does pb (f + 1) (.lev 7) 88 := by
  intro o ts W h hf
  have hF : Fr (· = pb) W (W.alloc (.cells #[.string ⟨#[60, 60]⟩, .string ⟨#[62, 62]⟩] 9)) := (Fr.refl _ _).alloc _
  have hL := level_any pb f 7 89 W.heap.size 2 (by decide) (by funext w; kernel_rfl) hop o ts (W.alloc (.cells #[.string ⟨#[60, 60]⟩, .string ⟨#[62, 62]⟩] 9)) (h.fr (S := fun _ => False) ((Fr.refl _ _).alloc _) (fun _ _ => id)) (strs_new W _ _ (lev 7) rfl) (by have := h.lt; omega) hf
  have HL : Hid (Calls Tryz.prog 64 #[.pointer (some ⟨pb, 0, none⟩), .func (.func 89) #[.pointer (some ⟨pb, 0, none⟩)] #[], .slice (some ⟨W.heap.size, 0, none⟩) 2 2] (W.alloc (.cells #[.string ⟨#[60, 60]⟩, .string ⟨#[62, 62]⟩] 9)) (ndPost pb o W (pP (f + 1) (.lev 7) o ts))) := Lib.hid (hL.mono fun e w' hp => ndPost.fr hF hp)
  have hmf : ∀ (fn : Fn) (first cap : Array Value) (w : World), (Instr.makeFunc fn first cap).run Tryz.prog w = .ok (.func fn first cap) w := fun _ _ _ _ => rfl
  clear hL hF h hop hf
  generalize pP (f + 1) (.lev 7) o ts = R at *
  go_enter Tryz.func88, Tryz.ntmps88
  cases R with
  | none =>
    go_wp2_with (go_at_call 64; (with_reducible refine HL.out.mono ?_); rintro e w1 ⟨rfl, hP, hF⟩; have HP1 := Lib.hid hP; have HF1 := Lib.hid hF; clear hP hF)
    exact ⟨rfl, rfl, HP1.out, HF1.out⟩
  | some x =>
    go_wp2_with (go_at_call 64; (with_reducible refine HL.out.mono ?_); rintro e w1 ⟨rfl, hP, hF⟩; have HP1 := Lib.hid hP; have HF1 := Lib.hid hF; clear hP hF)
    go_ret
    exact ⟨rfl, HP1.out, HF1.out⟩
set_option maxHeartbeats 1000000 in
theorem lev8_any (pb f : Nat) (hop : ∀ q, q ≤ f → Does pb q (opK 8) 90) : Does pb (f + 1) (.lev 8) 89 := by
  intro o ts W h hf
  have hF : Fr (· = pb) W (W.alloc (.cells #[.string ⟨#[43]⟩, .string ⟨#[45]⟩] 9)) := (Fr.refl _ _).alloc _
  have hL := level_any pb f 8 90 W.heap.size 2 (by decide) (by funext w; kernel_rfl) hop o ts (W.alloc (.cells #[.string ⟨#[43]⟩, .string ⟨#[45]⟩] 9)) (h.fr (S := fun _ => False) ((Fr.refl _ _).alloc _) (fun _ _ => id)) (strs_new W _ _ (lev 8) rfl) (by have := h.lt; omega) hf
  have HL : Hid (Calls Tryz.prog 64 #[.pointer (some ⟨pb, 0, none⟩), .func (.func 90) #[.pointer (some ⟨pb, 0, none⟩)] #[], .slice (some ⟨W.heap.size, 0, none⟩) 2 2] (W.alloc (.cells #[.string ⟨#[43]⟩, .string ⟨#[45]⟩] 9)) (ndPost pb o W (pP (f + 1) (.lev 8) o ts))) := Lib.hid (hL.mono fun e w' hp => ndPost.fr hF hp)
  have hmf : ∀ (fn : Fn) (first cap : Array Value) (w : World), (Instr.makeFunc fn first cap).run Tryz.prog w = .ok (.func fn first cap) w := fun _ _ _ _ => rfl
  clear hL hF h hop hf
  generalize pP (f + 1) (.lev 8) o ts = R at *
  go_enter Tryz.func89, Tryz.ntmps89
  cases R with
  | none =>
    go_wp2_with (go_at_call 64; (with_reducible refine HL.out.mono ?_); rintro e w1 ⟨rfl, hP, hF⟩; have HP1 := Lib.hid hP; have HF1 := Lib.hid hF; clear hP hF)
    exact ⟨rfl, rfl, HP1.out, HF1.out⟩
  | some x =>
    go_wp2_with (go_at_call 64; (with_reducible refine HL.out.mono ?_); rintro e w1 ⟨rfl, hP, hF⟩; have HP1 := Lib.hid hP; have HF1 := Lib.hid hF; clear hP hF)
    go_ret
    exact ⟨rfl, HP1.out, HF1.out⟩
set_option maxHeartbeats 1000000 in
theorem lev9_any (pb f : Nat) (hop : ∀ q, q ≤ f → Does pb q (opK 9) 91) : Does pb (f + 1) (.lev 9) 90 := by
  intro o ts W h hf
  have hF : Fr (· = pb) W (W.alloc (.cells #[.string ⟨#[42]⟩, .string ⟨#[47]⟩, .string ⟨#[37]⟩] 9)) := (Fr.refl _ _).alloc _
  have hL := level_any pb f 9 91 W.heap.size 3 (by decide) (by funext w; kernel_rfl) hop o ts (W.alloc (.cells #[.string ⟨#[42]⟩, .string ⟨#[47]⟩, .string ⟨#[37]⟩] 9)) (h.fr (S := fun _ => False) ((Fr.refl _ _).alloc _) (fun _ _ => id)) (strs_new W _ _ (lev 9) rfl) (by have := h.lt; omega) hf
  have HL : Hid (Calls Tryz.prog 64 #[.pointer (some ⟨pb, 0, none⟩), .func (.func 91) #[.pointer (some ⟨pb, 0, none⟩)] #[], .slice (some ⟨W.heap.size, 0, none⟩) 3 3] (W.alloc (.cells #[.string ⟨#[42]⟩, .string ⟨#[47]⟩, .string ⟨#[37]⟩] 9)) (ndPost pb o W (pP (f + 1) (.lev 9) o ts))) := Lib.hid (hL.mono fun e w' hp => ndPost.fr hF hp)
  have hmf : ∀ (fn : Fn) (first cap : Array Value) (w : World), (Instr.makeFunc fn first cap).run Tryz.prog w = .ok (.func fn first cap) w := fun _ _ _ _ => rfl
  clear hL hF h hop hf
  generalize pP (f + 1) (.lev 9) o ts = R at *
  go_enter Tryz.func90, Tryz.ntmps90
  cases R with
  | none =>
    go_wp2_with (go_at_call 64; (with_reducible refine HL.out.mono ?_); rintro e w1 ⟨rfl, hP, hF⟩; have HP1 := Lib.hid hP; have HF1 := Lib.hid hF; clear hP hF)
    exact ⟨rfl, rfl, HP1.out, HF1.out⟩
  | some x =>
    go_wp2_with (go_at_call 64; (with_reducible refine HL.out.mono ?_); rintro e w1 ⟨rfl, hP, hF⟩; have HP1 := Lib.hid hP; have HF1 := Lib.hid hF; clear hP hF)
    go_ret
    exact ⟨rfl, HP1.out, HF1.out⟩
end Go.Proofs.YtbmnngliapmgfaaGreatDoor
