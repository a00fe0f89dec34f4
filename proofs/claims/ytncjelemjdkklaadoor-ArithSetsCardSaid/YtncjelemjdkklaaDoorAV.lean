/- Contracts of the nodes' value. -/
import Derived.Test.YtncjelemjdkklaaDoorAU
namespace Go.Proofs.YtncjelemjdkklaaDoor
open Go.RowKit
set_option linter.unusedVariables false
set_option linter.unusedSimpArgs false
def tyN : Nd → TypeId
  | .num _ => 54
  | .nam _ => 115
  | .pre _ _ => 114
  | .bin _ _ _ => 101
  | .cho _ _ _ => 77
  | .asg _ _ _ => 64
def vlN : Nd → Value
  | .num n => .int .i64 n
  | .nam s => .string (st s)
  | .pre g r => .agg #[.string (st g), enc r]
  | .bin g l r => .agg #[.string (st g), enc l, enc r]
  | .cho c y n => .agg #[enc c, enc y, enc n]
  | .asg s g r => .agg #[.string (st s), .string (st g), enc r]
def fnN : Nd → Nat
  | .num _ => 95
  | .nam _ => 114
  | .pre _ _ => 113
  | .bin _ _ _ => 112
  | .cho _ _ _ => 111
  | .asg _ _ _ => 96
theorem enc_form (n : Nd) : enc n = .iface (tyN n) (vlN n) := by cases n <;> rfl
def asgN : Nd → Nat
  | .num _ => 0
  | .nam _ => 0
  | .pre _ r => asgN r
  | .bin _ l r => asgN l + asgN r
  | .cho c y n => asgN c + asgN y + asgN n
  | .asg _ _ r => asgN r + 1
theorem setV_len (o : Own) (n : Bs) (v : Int) : (setV o n v).length ≤ o.length + 1 := by
  induction o with
  | nil => simp [setV]
  | cons q r ih => rw [setV]; split <;> simp; omega
theorem ev_len (g : List (Bs × Bs)) : ∀ (n : Nd) (o : Own), (ev g n o).2.length ≤ o.length + asgN n
  | .num n, o => by simp [ev, asgN]
  | .nam s, o => by simp [ev, asgN]
  | .pre s r, o => by
    have := ev_len g r o
    rw [ev, asgN]
    split
    rename_i a e o1 h
    rw [h] at this
    split <;> exact this
  | .bin s l r, o => by
    have h1 := ev_len g l o
    rw [ev, asgN]
    split
    rename_i a e o1 h
    rw [h] at h1
    dsimp only at h1
    have h2 := ev_len g r o1
    split
    · split
      · dsimp only; omega
      · split
        rename_i b e2 o2 h'
        rw [h'] at h2
        dsimp only at h2
        split <;> dsimp only <;> omega
    · dsimp only; omega
  | .cho c y n, o => by
    have h1 := ev_len g c o
    rw [ev, asgN]
    split
    rename_i a e o1 h
    rw [h] at h1
    dsimp only at h1
    have h2 := ev_len g y o1
    have h3 := ev_len g n o1
    split
    · split <;> omega
    · dsimp only; omega
  | .asg s t r, o => by
    have h1 := ev_len g r o
    rw [ev, asgN]
    split
    rename_i a e o1 h
    rw [h] at h1
    dsimp only at h1
    have h2 := fun v => setV_len o1 s v
    split
    · split
      · dsimp only; have := h2 a; omega
      · split
        · split
          · dsimp only; have := h2 (opI t (getV g o1 s).fst a).fst; omega
          · dsimp only; omega
        · dsimp only; omega
    · dsimp only; omega
def evPost (B vb : Nat) (g : List (Bs × Bs)) (S : Nat → Prop) (W : World) (r : (Int × Int) × Own) (e : Ending) (w' : World) : Prop :=
  e = .returned (.tuple #[.int .i64 r.1.1, .int .i64 r.1.2]) ∧ ∃ S', VT w' B vb S' g r.2 ∧ Step S S' W w'
def Evs (B vb : Nat) (g : List (Bs × Bs)) (n : Nd) : Prop := ∀ (o : Own) (S : Nat → Prop) (W : World), VT W B vb S g o → o.length + asgN n ≤ 1000000 → Calls Tryd.prog (fnN n) #[vlN n, .pointer (some ⟨vb, 0, none⟩)] W (evPost B vb g S W (ev g n o))
/-- the method that a node's type has. -/
theorem meth (n : Nd) (w : World) : (method 243 (tyN n) (vlN n) "almoner/arith.value").run Tryd.prog w = .ok (fnN n, vlN n) w := by
  cases n <;> kernel_rfl
theorem meth_in (n : Nd) (args : Array Value) (w : World) : (callFunc (fnN n) args).run Tryd.prog w = .ok (.enter (fnN n) args) w := by
  cases n <;> kernel_rfl
theorem ev_num (B vb : Nat) (g : List (Bs × Bs)) (n : Int) : Evs B vb g (.num n) := by
  intro o S W h hl
  show Calls Tryd.prog 95 #[.int .i64 n, .pointer (some ⟨vb, 0, none⟩)] W (evPost B vb g S W ((n, 0), o))
  go_enter Tryd.func95, Tryd.ntmps95
  go_wp2
  go_ret2
  exact ⟨rfl, S, h, Step.refl _ _⟩
theorem ev_nam (B vb : Nat) (g : List (Bs × Bs)) (s : Bs) : Evs B vb g (.nam s) := by
  intro o S W h hl
  show Calls Tryd.prog 114 #[.string (st s), .pointer (some ⟨vb, 0, none⟩)] W (evPost B vb g S W (getV g o s, o))
  have HG := Lib.hid (get_any s h (by omega))
  have HV := Lib.hid (fun W' (f : Fr (fun _ => False) W W') => h.fresh f)
  clear h
  generalize getV g o s = r at *
  generalize st s = x at *
  go_enter Tryd.func114, Tryd.ntmps114
  go_wp2_with (go_at_call 99; (with_reducible refine HG.out.mono ?_); rintro e w1 ⟨rfl, hF1⟩; have HF1 := Lib.hid hF1; clear hF1)
  go_ret2
  exact ⟨rfl, S, HV.out _ HF1.out, Step.new HF1.out⟩
/-- what stands in the block that was made last, behind a step. -/
theorem box_keep {W w1 : World} {B vb : Nat} {S S' : Nat → Prop} {g : List (Bs × Bs)} {o : Own} {cs : Array Value} {t : TypeId} (h : VT W B vb S g o) (hs : Step S S' (W.alloc (.cells cs t)) w1) {j : Nat} {v : Value} (hj : cs[j]? = some v) : w1.cell? ⟨W.heap.size, j, none⟩ = some v := by
  refine hs.1.cell ?_ (fun hk => ?_)
  · rw [Lib.cell_of_heap (heap_alloc_new W _)]; exact hj
  · have := (h.lt hk).2; omega
theorem step_box {W w1 : World} {B vb : Nat} {S S' : Nat → Prop} {g : List (Bs × Bs)} {o : Own} {cs : Array Value} {t : TypeId} (hs : Step S S' (W.alloc (.cells cs t)) w1) : Step S S' W w1 :=
  (Step.new ((Fr.refl _ W).alloc _)).trans hs
set_option maxRecDepth 100000 in
set_option maxHeartbeats 2000000 in
theorem ev_pre (B vb : Nat) (g : List (Bs × Bs)) (s : Bs) (r : Nd) (ih : Evs B vb g r) : Evs B vb g (.pre s r) := by
  intro o S W h hl
  show Calls Tryd.prog 113 #[.agg #[.string (st s), enc r], .pointer (some ⟨vb, 0, none⟩)] W (evPost B vb g S W (ev g (.pre s r) o))
  have hF : Fr (fun _ => False) W (W.alloc (.cells #[.string (st s), .iface (tyN r) (vlN r)] 114)) := (Fr.refl _ _).alloc _
  have hI := ih o S _ (h.fresh hF) (by simp only [asgN] at hl; omega)
  rw [enc_form, ev]
  have hme := meth r
  have hmi := meth_in r
  clear hl ih
  rcases hev : ev g r o with ⟨⟨a, e⟩, o1⟩
  rw [hev] at hI
  have HI := Lib.hid (hI.mono (show ∀ e' w', _ → (e' = .returned (.tuple #[.int .i64 a, .int .i64 e]) ∧ W.heap.size < w'.heap.size ∧ w'.cell? ⟨W.heap.size, 0, none⟩ = some (.string (st s)) ∧ ∃ S', VT w' B vb S' g o1 ∧ Step S S' W w') from by
    rintro e' w' ⟨rfl, S', hV, hS⟩
    exact ⟨rfl, Nat.lt_of_lt_of_le (by simp) hS.1.size, box_keep h hS rfl, S', hV, (Step.new hF).trans hS⟩))
  clear hI hev hF
  generalize tyN r = ta at *
  generalize vlN r = va at *
  generalize fnN r = fa at *
  dsimp only
  by_cases he : e = 0
  · subst he
    rw [if_pos rfl]
    have hb : (s = [45]) ∨ (s ≠ [45] ∧ s = [126]) ∨ (s ≠ [45] ∧ s ≠ [126] ∧ s = [33]) ∨ (s ≠ [45] ∧ s ≠ [126] ∧ s ≠ [33]) := by
      by_cases h1 : s = [45]
      · exact .inl h1
      · by_cases h2 : s = [126]
        · exact .inr (.inl ⟨h1, h2⟩)
        · by_cases h3 : s = [33]
          · exact .inr (.inr (.inl ⟨h1, h2, h3⟩))
          · exact .inr (.inr (.inr ⟨h1, h2, h3⟩))
    have g45 := st_dec s [45]
    have g126 := st_dec s [126]
    have g33 := st_dec s [33]
    have HT := Lib.hid (truth_any (a == 0))
    have E := Lib.hid (show preI s a = if s = [45] then wrap64 (-a) else if s = [126] then bits .xor .i64 (-1) a else if s = [33] then truth (a == 0) else a from rfl)
    generalize st s = x at *
    rcases hb with h1 | ⟨h1, h2⟩ | ⟨h1, h2, h3⟩ | ⟨h1, h2, h3⟩
    · rw [if_pos h1] at E
      rw [show decide (s = [45]) = true by simpa using h1] at g45
      clear g126 g33 h1
      go_enter Tryd.func113, Tryd.ntmps113
      go_wp2_with ((with_reducible refine HI.out.mono ?_); rintro e w1 ⟨rfl, hlt, c0, S', hV, hS⟩; have HV := Lib.hid hV; have HS := Lib.hid hS; clear hV hS)
      go_ret2
      exact ⟨ret_two (by rw [E.out]; rfl) rfl, S', HV.out, HS.out⟩
    · rw [if_neg h1, if_pos h2] at E
      rw [show decide (s = [45]) = false by simpa using h1] at g45
      rw [show decide (s = [126]) = true by simpa using h2] at g126
      clear g33 h1 h2
      go_enter Tryd.func113, Tryd.ntmps113
      go_wp2_with ((with_reducible refine HI.out.mono ?_); rintro e w1 ⟨rfl, hlt, c0, S', hV, hS⟩; have HV := Lib.hid hV; have HS := Lib.hid hS; clear hV hS)
      go_ret2
      exact ⟨ret_two (by rw [E.out]; rfl) rfl, S', HV.out, HS.out⟩
    · rw [if_neg h1, if_neg h2, if_pos h3] at E
      rw [show decide (s = [45]) = false by simpa using h1] at g45
      rw [show decide (s = [126]) = false by simpa using h2] at g126
      rw [show decide (s = [33]) = true by simpa using h3] at g33
      clear h1 h2 h3
      generalize truth (a == 0) = tz at *
      go_enter Tryd.func113, Tryd.ntmps113
      go_wp2_with (first | (go_at_call 106; (with_reducible refine (HT.out _).mono ?_); rintro e w1 ⟨rfl, rfl⟩) | ((with_reducible refine HI.out.mono ?_); rintro e w1 ⟨rfl, hlt, c0, S', hV, hS⟩; have HV := Lib.hid hV; have HS := Lib.hid hS; clear hV hS))
      go_ret2
      exact ⟨ret_two (by rw [E.out]; rfl) rfl, S', HV.out, HS.out⟩
    · rw [if_neg h1, if_neg h2, if_neg h3] at E
      rw [show decide (s = [45]) = false by simpa using h1] at g45
      rw [show decide (s = [126]) = false by simpa using h2] at g126
      rw [show decide (s = [33]) = false by simpa using h3] at g33
      clear h1 h2 h3
      go_enter Tryd.func113, Tryd.ntmps113
      go_wp2_with ((with_reducible refine HI.out.mono ?_); rintro e w1 ⟨rfl, hlt, c0, S', hV, hS⟩; have HV := Lib.hid hV; have HS := Lib.hid hS; clear hV hS)
      go_ret2
      exact ⟨ret_two (by rw [E.out]; rfl) rfl, S', HV.out, HS.out⟩
  · rw [if_neg he]
    have he' : (e == 0) = false := by simpa using he
    clear he
    go_enter Tryd.func113, Tryd.ntmps113
    go_wp2_with ((with_reducible refine HI.out.mono ?_); rintro e w1 ⟨rfl, hlt, c0, S', hV, hS⟩; have HV := Lib.hid hV; have HS := Lib.hid hS; clear hV hS)
    go_ret2
    exact ⟨rfl, S', HV.out, HS.out⟩
end Go.Proofs.YtncjelemjdkklaaDoor
