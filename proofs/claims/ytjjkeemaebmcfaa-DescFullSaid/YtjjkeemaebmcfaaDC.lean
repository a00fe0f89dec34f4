/- Contracts: Get, Drop. -/
import Derived.Test.YtjjkeemaebmcfaaDB
namespace Go.Proofs.Ytjjkeemaebmcfaa
open Go.RowKit
set_option linter.unusedVariables false
set_option linter.unusedSimpArgs false
variable {W W' : World} {P : Nat} {e : Tab}

/-- an answer of five cells that lie in a block, and a slot. -/
theorem resDesc {G : Nat} (fn : Func) (sa sb : Nat) (hfn : fn.results = #[.cell sa 28, .tmp sb]) {x : Ent} {b : Value} (h : ∀ (j : Nat) v, x.desc[j]? = some v → W.cell? ⟨G, j, none⟩ = some v)
    (tmps : Array Value) (h1 : tmps.getD sa undef = .pointer (some ⟨G, 0, none⟩)) (h2 : tmps.getD sb undef = b) :
    (results fn tmps).run Try.prog W = .ok (.tuple #[.agg x.desc.toArray, b]) W := by
  have hl : (loadCells ⟨G, 0, none⟩ 5).run Try.prog W = .ok x.desc.toArray W := by
    have := run_loadCells_list (P := Try.prog) W ⟨G, 0, none⟩ x.desc (fun j v hv => by
      rw [Addr.add_lit, Nat.zero_add]
      exact h j v hv)
    exact this
  have h3 : ∀ w, (isAgg 28).run Try.prog w = .ok true w := fun w => by kernel_rfl
  have h4 : ∀ w, (sizeOf 28).run Try.prog w = .ok 5 w := fun w => by kernel_rfl
  have hv : (loadVar 28 ⟨G, 0, none⟩).run Try.prog W = .ok (.agg x.desc.toArray) W := by
    simp [loadVar, h3, h4, hl]
  simp only [Array.getD_eq_getD_getElem?] at h1 h2
  simp [results, hfn, h1, h2, hv, asAddr]
theorem own_desc (w : World) (z : Array Value) (hz : z.size = 5) (t : TypeId) (x : Ent) : ∀ (j : Nat) v, x.desc[j]? = some v → ((w.alloc (.cells z t)).setCells w.heap.size 0 x.desc).cell? ⟨w.heap.size, j, none⟩ = some v := by
  intro j v hv
  have hj := (List.getElem?_eq_some_iff.1 hv).1
  have := World.cell?_setCells_in w.heap.size x.desc 0 (w.alloc (.cells z t)) (fun i hi => by
    have hi2 : i < 5 := hi
    rw [cell_of_row _ w.heap.size (0 + i) _ _ (0, 0) (heap_alloc_new w _)]
    simp [hz, hi2]) j hj
  rw [Nat.zero_add] at this
  rw [this]
  have h2 := (List.getElem?_eq_some_iff.1 hv).2
  simp [h2]
theorem lay_desc (w : World) (t : TypeId) (x : Ent) : ∀ (j : Nat) v, x.desc[j]? = some v → (w.alloc (.cells x.desc.toArray t)).cell? ⟨w.heap.size, j, none⟩ = some v := by
  intro j v hv
  rw [cell_of_row _ w.heap.size j _ _ (0, 0) (heap_alloc_new w _)]
  simpa using hv
theorem two_desc {w : World} (V : World) (hs : V.heap.size = w.heap.size) (t : TypeId) (o : Obj) (x : Ent) : ∀ (j : Nat) v, x.desc[j]? = some v → ((V.alloc (.cells x.desc.toArray t)).alloc o).cell? ⟨w.heap.size, j, none⟩ = some v := by
  intro j v hv
  rw [← hs]
  exact Fr.cell (S := fun _ => False) ((Fr.refl _ _).alloc _) (lay_desc V t x j v hv) id
theorem two_zero {w : World} (V : World) (hs : V.heap.size = w.heap.size) (t : TypeId) (x : Ent) : ∀ (j : Nat) v, x.desc[j]? = some v → (V.alloc (.cells x.desc.toArray t)).cell? ⟨w.heap.size, j, none⟩ = some v := by
  intro j v hv
  rw [← hs]
  exact lay_desc V t x j v hv
theorem two_zero_d {w : World} (V : World) (hs : V.heap.size = w.heap.size) (t : TypeId) (x : Ent) : ∀ (j : Nat) v, x.desc[j]? = some v → (V.alloc (.cells x.desc.toArray t)).drew.cell? ⟨w.heap.size, j, none⟩ = some v :=
  fun j v hv => two_zero V hs t x j v hv
theorem upd_upd (e : Tab) (k : Nat) (x y : Ent) : upd (upd e k x) k y = upd e k y := by
  funext i; unfold upd; by_cases h : i = k <;> simp [h]
theorem size_setCells (g : Nat) : ∀ (vs : List Value) (o : Nat) (w : World), (w.setCells g o vs).heap.size = w.heap.size
  | [], _, _ => rfl
  | v :: r, o, w => (size_setCells g r (o + 1) _).trans (by simp [World.setCell])
def getA (e : Tab) (n : Int) : Ent := if isE e n then e n.toNat else Ent.zero
theorem pget_any (n : Int) (w : World) (h : TB 63 w P e) :
    Calls Try.prog 18 #[.pointer (some ⟨P, 0, none⟩), .int .i64 n] w fun r w' => r = .returned (.tuple #[.agg (getA e n).desc.toArray, .bool (isE e n)]) ∧ Fr (fun _ => False) w w' := by
  have HE := fun W (H : TB 63 W P e) => pentry_any n W H
  unfold getA
  have H := Lib.hid h
  cases hi : isE e n
  · rw [hi] at HE
    simp only [Bool.false_eq_true, if_false] at HE ⊢
    clear h
    go_enter Try.func18, Try.ntmps18
    go_wp2_with (refine (HE _ (H.out.fr (S := fun _ => False) ((Fr.refl _ _).alloc _) id)).mono ?_; rintro r w' ⟨rfl, rfl⟩)
    exact bodyPost_ret (resDesc Try.f18 4 5 rfl (x := Ent.zero) (lay_desc w _ Ent.zero) _ rfl rfl) rfl ⟨rfl, (Fr.refl _ _).alloc _⟩
  · rw [hi] at HE
    obtain ⟨k, rfl, hk, hn⟩ := isE_true hi
    simp only [if_true, Int.toNat_natCast] at HE ⊢
    have hP := h.lt
    have c0 := h.c0 hk
    have c1 := h.c1 hk
    have c2 := h.c2 hk
    have c3 := h.c3 hk
    have c4 := h.c4 hk
    clear h hi hn
    go_enter Try.func18, Try.ntmps18
    go_wp2_with (refine (HE _ (H.out.fr (S := fun _ => False) ((Fr.refl _ _).alloc _) id)).mono ?_; rintro r w' ⟨rfl, rfl⟩)
    exact bodyPost_ret (resDesc Try.f18 4 5 rfl (x := e k) (lay_desc w _ (e k)) _ rfl rfl) rfl ⟨rfl, (Fr.refl _ _).alloc _⟩
theorem rget_any (n : Int) (w : World) (h : TB 33 w P e) :
    Calls Try.prog 19 #[.pointer (some ⟨P, 0, none⟩), .int .i64 n] w fun r w' => r = .returned (.tuple #[.agg (getA e n).desc.toArray, .bool (isE e n)]) ∧ Fr (fun _ => False) w w' := by
  have HE := fun W (H : TB 33 W P e) => ris_any n W H
  unfold getA
  have H := Lib.hid h
  cases hi : isE e n
  · rw [hi] at HE
    simp only [Bool.false_eq_true, if_false] at HE ⊢
    clear h
    go_enter Try.func19, Try.ntmps19
    go_wp2_with (refine (HE _ (H.out.fr (S := fun _ => False) ((Fr.refl _ _).alloc _) id)).mono ?_; rintro r w' ⟨rfl, rfl⟩)
    exact bodyPost_ret (resDesc Try.f19 4 5 rfl (x := Ent.zero) (lay_desc w _ Ent.zero) _ rfl rfl) rfl ⟨rfl, (Fr.refl _ _).alloc _⟩
  · rw [hi] at HE
    obtain ⟨k, rfl, hk, hn⟩ := isE_true hi
    simp only [if_true, Int.toNat_natCast] at HE ⊢
    have hP := h.lt
    have c0 := h.c0 hk
    have c1 := h.c1 hk
    have c2 := h.c2 hk
    have c3 := h.c3 hk
    have c4 := h.c4 hk
    clear h hi hn
    go_enter Try.func19, Try.ntmps19
    go_wp2_with (refine (HE _ (H.out.fr (S := fun _ => False) ((Fr.refl _ _).alloc _) id)).mono ?_; rintro r w' ⟨rfl, rfl⟩)
    exact bodyPost_ret (resDesc Try.f19 4 5 rfl (x := e k) (lay_desc w _ (e k)) _ rfl rfl) rfl ⟨rfl, (Fr.refl _ _).alloc _⟩
/-- Drop: what it tells, and the tables behind it. -/
def dropB (e : Tab) (n : Int) : Bool := isE e n && decide ((e n.toNat).n = 1)
def dropA (e : Tab) (n : Int) : Ent := if dropB e n then e n.toNat else Ent.zero
def decT (e : Tab) (k : Nat) : Tab := upd e k { e k with n := (e k).n - 1 }
def dropP (e : Tab) (n : Int) : Tab := if isE e n then (if dropB e n then upd e n.toNat Ent.zero else decT e n.toNat) else e
def dropR (e : Tab) (n : Int) : Tab := if isE e n then decT e n.toNat else e
theorem pdrop_any (n : Int) (w : World) (h : TB 63 w P e) (hb : (e n.toNat).n < 1000000) :
    Calls Try.prog 16 #[.pointer (some ⟨P, 0, none⟩), .int .i64 n] w fun r w' => r = .returned (.tuple #[.agg (dropA e n).desc.toArray, .bool (dropB e n)]) ∧ TB 63 w' P (dropP e n) ∧ Fr (· = P) w w' := by
  have HE := fun W (H : TB 63 W P e) => pentry_any n W H
  unfold dropP dropA dropB
  have H := Lib.hid h
  cases hi : isE e n
  · rw [hi] at HE
    simp only [Bool.false_eq_true, if_false, Bool.false_and] at HE ⊢
    clear h
    go_enter Try.func16, Try.ntmps16
    go_wp2_with (refine (HE _ (H.out.fr (S := fun _ => False) ((Fr.refl _ _).alloc _) id)).mono ?_; rintro r w' ⟨rfl, rfl⟩)
    exact bodyPost_ret (resDesc Try.f16 4 5 rfl (x := Ent.zero) (lay_desc w _ Ent.zero) _ rfl rfl) rfl ⟨rfl, H.out.fr (S := fun _ => False) ((Fr.refl _ _).alloc _) id, (Fr.refl _ _).alloc _⟩
  · rw [hi] at HE
    obtain ⟨k, rfl, hk, hn⟩ := isE_true hi
    simp only [if_true, Int.toNat_natCast, Bool.true_and] at HE hb ⊢
    have hP := h.lt
    have c5 := h.c5 hk
    have f5 := h.frozen (k * 6 + 5)
    by_cases h1 : (e k).n = 1
    · have c0 := h.c0 hk
      have c1 := h.c1 hk
      have c2 := h.c2 hk
      have c3 := h.c3 hk
      have c4 := h.c4 hk
      have f0 := h.frozen (k * 6)
      have f1 := h.frozen (k * 6 + 1)
      have f2 := h.frozen (k * 6 + 2)
      have f3 := h.frozen (k * 6 + 3)
      have f4 := h.frozen (k * 6 + 4)
      rw [h1] at c5
      rw [decide_eq_true h1]
      clear h hi hn h1
      go_enter Try.func16, Try.ntmps16
      go_wp2_with (refine (HE _ (H.out.fr (S := fun _ => False) ((Fr.refl _ _).alloc _) id)).mono ?_; rintro r w' ⟨rfl, rfl⟩)
      change bodyPost _ _ _ _ _ ((((w.setCell ⟨P, k * 6 + 5, none⟩ (.int .i64 0)).setCells P (k * 6) Ent.zero.cells).alloc (.cells (e k).desc.toArray 28)).alloc (.cells (e k).desc.toArray 28))
      have HT := ((H.out.setN k 0).setAll k Ent.zero)
      rw [upd_upd] at HT
      have HF := Fr.setCells (S := (· = P)) (g := P) (.inl rfl) Ent.zero.cells (k * 6) _ (Fr.one w P (k * 6 + 5) (.int .i64 0))
      have hs : ((w.setCell ⟨P, k * 6 + 5, none⟩ (.int .i64 0)).setCells P (k * 6) Ent.zero.cells).heap.size = w.heap.size := by
        rw [size_setCells]; simp [World.setCell]
      change TB _ ((w.setCell ⟨P, k * 6 + 5, none⟩ (.int .i64 0)).setCells P (k * 6) Ent.zero.cells) _ _ at HT
      generalize (w.setCell ⟨P, k * 6 + 5, none⟩ (.int .i64 0)).setCells P (k * 6) Ent.zero.cells = V at *
      exact bodyPost_ret (resDesc Try.f16 4 5 rfl (x := e k) (two_desc V hs _ _ (e k)) _ rfl rfl) rfl ⟨rfl, HT.fr (S := fun _ => False) (((Fr.refl _ _).alloc _).alloc _) id, (HF.alloc _).alloc _⟩
    · have g1 : 0 < (e k).n - 1 := by omega
      have g2 : (((e k).n : Nat) : Int) - 1 = (((e k).n - 1 : Nat) : Int) := by omega
      rw [decide_eq_false h1]
      have HT := (H.out.setN k ((e k).n - 1))
      unfold decT
      clear h hi hn h1
      generalize hm : (e k).n - 1 = m at *
      go_enter Try.func16, Try.ntmps16
      go_wp2_with (refine (HE _ (H.out.fr (S := fun _ => False) ((Fr.refl _ _).alloc _) id)).mono ?_; rintro r w' ⟨rfl, rfl⟩)
      exact bodyPost_ret (resDesc Try.f16 4 5 rfl (x := Ent.zero) (two_zero _ (by simp [World.setCell]) _ Ent.zero) _ rfl rfl) rfl ⟨rfl, HT.fr (S := fun _ => False) ((Fr.refl _ _).alloc _) id, (Fr.one _ _ _ _).alloc _⟩
theorem rdrop_any (n : Int) (w : World) (h : TB 33 w P e) (hb : (e n.toNat).n < 1000000) :
    Calls Try.prog 17 #[.pointer (some ⟨P, 0, none⟩), .int .i64 n] w fun r w' => r = .returned (.tuple #[.agg (dropA e n).desc.toArray, .bool (dropB e n)]) ∧ TB 33 w' P (dropR e n) ∧ Fr (· = P) w w' := by
  have HE := fun W (H : TB 33 W P e) => ris_any n W H
  unfold dropR dropA dropB
  have H := Lib.hid h
  cases hi : isE e n
  · rw [hi] at HE
    simp only [Bool.false_eq_true, if_false, Bool.false_and] at HE ⊢
    clear h
    go_enter Try.func17, Try.ntmps17
    go_wp2_with (refine (HE _ (H.out.fr (S := fun _ => False) ((Fr.refl _ _).alloc _) id)).mono ?_; rintro r w' ⟨rfl, rfl⟩)
    exact bodyPost_ret (resDesc Try.f17 4 5 rfl (x := Ent.zero) (lay_desc w _ Ent.zero) _ rfl rfl) rfl ⟨rfl, H.out.fr (S := fun _ => False) ((Fr.refl _ _).alloc _) id, (Fr.refl _ _).alloc _⟩
  · rw [hi] at HE
    obtain ⟨k, rfl, hk, hn⟩ := isE_true hi
    simp only [if_true, Int.toNat_natCast, Bool.true_and] at HE hb ⊢
    have hP := h.lt
    have c5 := h.c5 hk
    have f5 := h.frozen (k * 6 + 5)
    have HT := (H.out.setN k ((e k).n - 1))
    by_cases h1 : (e k).n = 1
    · have c0 := h.c0 hk
      have c1 := h.c1 hk
      have c2 := h.c2 hk
      have c3 := h.c3 hk
      have c4 := h.c4 hk
      rw [h1] at c5
      rw [decide_eq_true h1]
      rw [h1] at HT
      unfold decT
      rw [h1]
      clear h hi hn h1
      go_enter Try.func17, Try.ntmps17
      go_wp2_with (refine (HE _ (H.out.fr (S := fun _ => False) ((Fr.refl _ _).alloc _) id)).mono ?_; rintro r w' ⟨rfl, rfl⟩)
      go_region
      go_wp2
      exact bodyPost_ret (resDesc Try.f17 4 5 rfl (x := e k) (two_zero_d (w := w) (w.setCell ⟨P, k * 6 + 5, none⟩ (.int .i64 0)) (by simp [World.setCell]) 28 (e k)) _ rfl rfl) rfl ⟨rfl, HT.fr (S := fun _ => False) (((Fr.refl _ _).alloc _).drew) id, ((Fr.one _ _ _ _).alloc _).drew⟩
    · have g1 : 0 < (e k).n - 1 := by omega
      have g2 : (((e k).n : Nat) : Int) - 1 = (((e k).n - 1 : Nat) : Int) := by omega
      rw [decide_eq_false h1]
      clear h hi hn h1
      unfold decT
      generalize hm : (e k).n - 1 = m at *
      go_enter Try.func17, Try.ntmps17
      go_wp2_with (refine (HE _ (H.out.fr (S := fun _ => False) ((Fr.refl _ _).alloc _) id)).mono ?_; rintro r w' ⟨rfl, rfl⟩)
      go_region
      go_wp2
      exact bodyPost_ret (resDesc Try.f17 4 5 rfl (x := Ent.zero) (two_zero_d (w := w) (w.setCell ⟨P, k * 6 + 5, none⟩ (.int .i64 m)) (by simp [World.setCell]) 28 Ent.zero) _ rfl rfl) rfl ⟨rfl, HT.fr (S := fun _ => False) (((Fr.refl _ _).alloc _).drew) id, ((Fr.one _ _ _ _).alloc _).drew⟩
end Go.Proofs.Ytjjkeemaebmcfaa
