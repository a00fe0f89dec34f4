/- The document's reader, plain: what a tree is worth where a flag says whether it counts. -/
/- The document's reader: contracts of its functions on bytes and truths, and of open. -/
import Derived.Test.YtbmnngliapmgfaaGreatDoorAZ
import Derived.Test.YtbmnngliapmgfaaGreatDoorBN
namespace Go.Proofs.YtbmnngliapmgfaaGreatDoor
open Go.RowKit
set_option linter.unusedVariables false
set_option linter.unusedSimpArgs false
abbrev Sx := Own × Int
def bump (S : Sx) (c : Bool) (e : Int) : Sx := if e ≠ 0 ∧ c = true ∧ S.2 = 0 then (S.1, e) else S
def evC (g : List (Bs × Bs)) : Nd → Sx → Bool → Int × Sx
  | .num n, S, _ => (n, S)
  | .nam s, S, c => ((getV g S.1 s).1, bump S c (getV g S.1 s).2)
  | .pre s r, S, c => match evC g r S c with
    | (v, S1) => (preI s v, S1)
  | .bin s l r, S, c => match evC g l S c with
    | (a, S1) =>
      if s = [124, 124] then match evC g r S1 (c && a == 0) with
        | (b, S2) => (truth (a != 0 || b != 0), S2)
      else if s = [38, 38] then match evC g r S1 (c && a != 0) with
        | (b, S2) => (truth (a != 0 && b != 0), S2)
      else match evC g r S1 c with
        | (b, S2) => ((opI s a b).1, bump S2 c (opI s a b).2)
  | .cho k y n, S, c => match evC g k S c with
    | (v, S1) => match evC g y S1 (c && v != 0) with
      | (a, S2) => match evC g n S2 (c && v == 0) with
        | (b, S3) => (if v ≠ 0 then a else b, S3)
  | .asg s t r, S, c => match evC g r S c with
    | (v, S1) =>
      let v2 := if t = [] then v else (opI t (getV g S1.1 s).1 v).1
      let S2 := if t = [] then S1 else bump (bump S1 c (getV g S1.1 s).2) c (opI t (getV g S1.1 s).1 v).2
      (v2, if c = true ∧ S2.2 = 0 then (setV S2.1 s v2, 0) else S2)
theorem bump_off (S : Sx) (e : Int) : bump S false e = S := by unfold bump; rw [if_neg (by simp)]
theorem bump_err {S : Sx} (h : S.2 ≠ 0) (c : Bool) (e : Int) : bump S c e = S := by unfold bump; rw [if_neg (fun k => h k.2.2)]
theorem bump_on (o : Own) (e : Int) : bump (o, 0) true e = (o, e) := by
  unfold bump
  by_cases h : e = 0
  · rw [if_neg (fun k => k.1 h), h]
  · rw [if_pos ⟨h, rfl, rfl⟩]
/-- what does not count sets nothing, and tells no error. -/
theorem evC_off (g : List (Bs × Bs)) : ∀ (n : Nd) (S : Sx), (evC g n S false).2 = S
  | .num _, _ => rfl
  | .nam s, S => bump_off _ _
  | .pre s r, S => by rw [evC]; exact evC_off g r S
  | .bin s l r, S => by
    have h1 := evC_off g l S
    rw [evC]
    rcases hx : evC g l S false with ⟨a, S1⟩
    rw [hx] at h1
    dsimp only at h1 ⊢
    subst h1
    split
    · exact evC_off g r _
    · split
      · exact evC_off g r _
      · dsimp only
        rw [bump_off]; exact evC_off g r _
  | .cho k y n, S => by
    have h1 := evC_off g k S
    rw [evC]
    rcases hx : evC g k S false with ⟨v, S1⟩
    rw [hx] at h1
    dsimp only at h1 ⊢
    subst h1
    have h2 := evC_off g y S1
    rw [Bool.false_and, Bool.false_and]
    rcases hx : evC g y S1 false with ⟨a, S2⟩
    rw [hx] at h2
    dsimp only at h2 ⊢
    subst h2
    exact evC_off g n _
  | .asg s t r, S => by
    have h1 := evC_off g r S
    rw [evC]
    rcases hx : evC g r S false with ⟨v, S1⟩
    rw [hx] at h1
    dsimp only at h1 ⊢
    subst h1
    rw [if_neg (by simp)]
    split
    · rfl
    · rw [bump_off, bump_off]
/-- an error stays. -/
theorem evC_err (g : List (Bs × Bs)) : ∀ (n : Nd) (S : Sx) (c : Bool), S.2 ≠ 0 → (evC g n S c).2 = S
  | .num _, _, _, _ => rfl
  | .nam s, S, c, h => bump_err h _ _
  | .pre s r, S, c, h => by rw [evC]; exact evC_err g r S c h
  | .bin s l r, S, c, h => by
    have h1 := evC_err g l S c h
    rw [evC]
    rcases hx : evC g l S c with ⟨a, S1⟩
    rw [hx] at h1
    dsimp only at h1 ⊢
    subst h1
    split
    · exact evC_err g r _ _ h
    · split
      · exact evC_err g r _ _ h
      · dsimp only
        rw [evC_err g r _ _ h, bump_err h]
  | .cho k y n, S, c, h => by
    have h1 := evC_err g k S c h
    rw [evC]
    rcases hx : evC g k S c with ⟨v, S1⟩
    rw [hx] at h1
    dsimp only at h1 ⊢
    subst h1
    have h2 := evC_err g y S1 (c && v != 0) h
    rcases hx : evC g y S1 (c && v != 0) with ⟨a, S2⟩
    rw [hx] at h2
    dsimp only at h2 ⊢
    subst h2
    exact evC_err g n _ _ h
  | .asg s t r, S, c, h => by
    have h1 := evC_err g r S c h
    rw [evC]
    rcases hx : evC g r S c with ⟨v, S1⟩
    rw [hx] at h1
    dsimp only at h1 ⊢
    subst h1
    have e : (if t = [] then S1 else bump (bump S1 c (getV g S1.1 s).2) c (opI t (getV g S1.1 s).1 v).2) = S1 := by
      split
      · rfl
      · rw [bump_err h, bump_err h]
    rw [e, if_neg (fun k => h k.2)]
theorem op_log (s : Bs) (a b : Int) (h : s = [38, 38] ∨ s = [124, 124]) : opI s a b = (truth (b != 0), 0) := by
  rcases h with rfl | rfl <;> rfl
/-- WHAT COUNTS IS WORTH WHAT THE TREE IS WORTH. -/
theorem evC_ev (g : List (Bs × Bs)) : ∀ (n : Nd) (o : Own), ((ev g n o).1.2 = 0 → evC g n (o, 0) true = ((ev g n o).1.1, ((ev g n o).2, 0))) ∧ ((ev g n o).1.2 ≠ 0 → (evC g n (o, 0) true).2.2 = (ev g n o).1.2)
  | .num n, o => ⟨fun _ => rfl, fun h => absurd rfl h⟩
  | .nam s, o => by
    show (_ → ((getV g o s).1, bump (o, 0) true (getV g o s).2) = _) ∧ (_ → (bump (o, 0) true (getV g o s).2).2 = _)
    rw [bump_on]
    exact ⟨fun h => by
      have h : (getV g o s).2 = 0 := h
      rw [h]; rfl, fun _ => rfl⟩
  | .pre s r, o => by
    obtain ⟨h1, h2⟩ := evC_ev g r o
    rw [evC, ev]
    rcases hx : ev g r o with ⟨⟨a, e⟩, o1⟩
    rw [hx] at h1 h2
    dsimp only at h1 h2 ⊢
    by_cases he : e = 0
    · rw [if_pos he, h1 he]
      exact ⟨fun _ => rfl, fun h => absurd rfl h⟩
    · rw [if_neg he]
      exact ⟨fun h => absurd h he, fun _ => h2 he⟩
  | .bin s l r, o => by
    obtain ⟨h1, h2⟩ := evC_ev g l o
    rw [evC, ev]
    rcases hl : ev g l o with ⟨⟨a, e⟩, o1⟩
    rw [hl] at h1 h2
    dsimp only at h1 h2 ⊢
    by_cases he : e = 0
    · rw [if_pos he, h1 he]
      dsimp only
      obtain ⟨k1, k2⟩ := evC_ev g r o1
      by_cases hs : (s = [38, 38] ∧ a = 0) ∨ (s = [124, 124] ∧ a ≠ 0)
      · rw [if_pos hs]
        refine ⟨fun _ => ?_, fun h => absurd rfl h⟩
        rcases hs with ⟨rfl, ha⟩ | ⟨rfl, ha⟩
        · rw [if_neg (by decide), if_pos rfl]
          have e1 : (true && a != 0) = false := by simp [ha]
          have := evC_off g r (o1, 0)
          rw [e1]
          rcases hx : evC g r (o1, 0) false with ⟨b, S2⟩
          rw [hx] at this
          dsimp only at this ⊢
          subst this
          simp [ha]
        · rw [if_pos rfl]
          have e1 : (true && a == 0) = false := by simp [ha]
          have := evC_off g r (o1, 0)
          rw [e1]
          rcases hx : evC g r (o1, 0) false with ⟨b, S2⟩
          rw [hx] at this
          dsimp only at this ⊢
          subst this
          have e2 : (a != 0) = true := by simpa using ha
          rw [e2]; rfl
      · rw [if_neg hs]
        have hop := op_log s a
        rcases hr : ev g r o1 with ⟨⟨b, e2⟩, o2⟩
        rw [hr] at k1 k2
        dsimp only at k1 k2 ⊢
        by_cases h38 : s = [38, 38]
        · have ha : a ≠ 0 := fun h => hs (.inl ⟨h38, h⟩)
          have e1 : (true && a != 0) = true := by simp [ha]
          rw [if_neg (show ¬ s = [124, 124] by rw [h38]; decide), if_pos h38, e1]
          by_cases he2 : e2 = 0
          · rw [if_pos he2, k1 he2, hop b (.inl h38)]
            refine ⟨fun _ => ?_, fun h => absurd rfl h⟩
            have e3 : (a != 0) = true := by simpa using ha
            rw [e3]; rfl
          · rw [if_neg he2]
            exact ⟨fun h => absurd h he2, fun _ => k2 he2⟩
        · by_cases h124 : s = [124, 124]
          · have ha : a = 0 := Classical.byContradiction fun h => hs (.inr ⟨h124, h⟩)
            have e1 : (true && a == 0) = true := by simp [ha]
            rw [if_pos h124, e1]
            by_cases he2 : e2 = 0
            · rw [if_pos he2, k1 he2, hop b (.inr h124)]
              refine ⟨fun _ => ?_, fun h => absurd rfl h⟩
              simp [ha]
            · rw [if_neg he2]
              exact ⟨fun h => absurd h he2, fun _ => k2 he2⟩
          · rw [if_neg h124, if_neg h38]
            by_cases he2 : e2 = 0
            · rw [if_pos he2, k1 he2]
              dsimp only
              rw [bump_on]
              exact ⟨fun h => by rw [h], fun _ => rfl⟩
            · rw [if_neg he2]
              refine ⟨fun h => absurd h he2, fun _ => ?_⟩
              have := k2 he2
              rw [bump_err (by rw [this]; exact he2)]
              exact this
    · rw [if_neg he]
      refine ⟨fun h => absurd h he, fun _ => ?_⟩
      have h2 := h2 he
      rcases hx : evC g l (o, 0) true with ⟨a', S1⟩
      rw [hx] at h2
      dsimp only at h2 ⊢
      have hS : S1.2 ≠ 0 := by rw [h2]; exact he
      split
      · rw [evC_err g r S1 _ hS]; exact h2
      · split
        · rw [evC_err g r S1 _ hS]; exact h2
        · dsimp only
          rw [evC_err g r S1 _ hS, bump_err hS]; exact h2
  | .cho k y n, o => by
    obtain ⟨h1, h2⟩ := evC_ev g k o
    rw [evC, ev]
    rcases hl : ev g k o with ⟨⟨v, e⟩, o1⟩
    rw [hl] at h1 h2
    dsimp only at h1 h2 ⊢
    by_cases he : e = 0
    · rw [if_pos he, h1 he]
      dsimp only
      by_cases hv : v = 0
      · rw [if_pos hv]
        have e1 : (true && v != 0) = false := by simp [hv]
        have e2 : (true && v == 0) = true := by simp [hv]
        rw [e1, e2]
        have := evC_off g y (o1, 0)
        rcases hx : evC g y (o1, 0) false with ⟨b, S2⟩
        rw [hx] at this
        dsimp only at this ⊢
        subst this
        obtain ⟨k1, k2⟩ := evC_ev g n o1
        refine ⟨fun h => ?_, fun h => k2 h⟩
        rw [k1 h]
        simp [hv]
      · rw [if_neg hv]
        have e1 : (true && v != 0) = true := by simp [hv]
        have e2 : (true && v == 0) = false := by simp [hv]
        rw [e1, e2]
        obtain ⟨k1, k2⟩ := evC_ev g y o1
        have h3 := evC_off g n (evC g y (o1, 0) true).2
        refine ⟨fun h => ?_, fun h => ?_⟩
        · have hk := k1 h
          rw [hk] at h3 ⊢
          dsimp only at h3 ⊢
          rcases hx : evC g n ((ev g y o1).2, 0) false with ⟨b, S2⟩
          rw [hx] at h3
          dsimp only at h3 ⊢
          subst h3
          simp [hv]
        · rw [← k2 h]
          exact congrArg Prod.snd h3
    · rw [if_neg he]
      refine ⟨fun h => absurd h he, fun _ => ?_⟩
      have h2 := h2 he
      rcases hx : evC g k (o, 0) true with ⟨a', S1⟩
      rw [hx] at h2
      dsimp only at h2 ⊢
      have hS : S1.2 ≠ 0 := by rw [h2]; exact he
      have h3 := evC_err g y S1 (true && a' != 0) hS
      rcases hy : evC g y S1 (true && a' != 0) with ⟨b', S2⟩
      rw [hy] at h3
      dsimp only at h3 ⊢
      subst h3
      rw [evC_err g n S2 _ hS]; exact h2
  | .asg s t r, o => by
    obtain ⟨h1, h2⟩ := evC_ev g r o
    rw [evC, ev]
    rcases hl : ev g r o with ⟨⟨a, e⟩, o1⟩
    rw [hl] at h1 h2
    dsimp only at h1 h2 ⊢
    by_cases he : e = 0
    · rw [if_pos he, h1 he]
      dsimp only
      by_cases ht : t = []
      · rw [if_pos ht, if_pos ht, if_pos ht]
        exact ⟨fun _ => by rw [if_pos ⟨rfl, rfl⟩], fun h => absurd rfl h⟩
      · rw [if_neg ht, if_neg ht, if_neg ht, bump_on]
        rcases getV g o1 s with ⟨x, ex⟩
        dsimp only
        by_cases hx : ex = 0
        · rw [if_pos hx, hx, bump_on]
          rcases opI t x a with ⟨z, ez⟩
          dsimp only
          by_cases hz : ez = 0
          · rw [if_pos hz]
            exact ⟨fun _ => by rw [if_pos ⟨rfl, hz⟩], fun h => absurd rfl h⟩
          · rw [if_neg hz]
            exact ⟨fun h => absurd h hz, fun _ => by rw [if_neg (fun k => hz k.2)]⟩
        · rw [if_neg hx, bump_err (S := (o1, ex)) hx]
          exact ⟨fun h => absurd h hx, fun _ => by rw [if_neg (fun k => hx k.2)]⟩
    · rw [if_neg he]
      refine ⟨fun h => absurd h he, fun _ => ?_⟩
      have h2 := h2 he
      rcases hx : evC g r (o, 0) true with ⟨a', S1⟩
      rw [hx] at h2
      dsimp only at h2 ⊢
      have hS : S1.2 ≠ 0 := by rw [h2]; exact he
      have e3 : (if t = [] then S1 else bump (bump S1 true (getV g S1.1 s).2) true (opI t (getV g S1.1 s).1 a').2) = S1 := by
        split
        · rfl
        · rw [bump_err hS, bump_err hS]
      rw [e3, if_neg (fun k => hS k.2)]; exact h2
end Go.Proofs.YtbmnngliapmgfaaGreatDoor
namespace Go.Proofs.YtbmnngliapmgfaaGreatDoor
open Go.RowKit
set_option linter.unusedVariables false
set_option linter.unusedSimpArgs false
theorem rdigit_any (c : UInt8) (w : World) :
    Calls Tryz.prog 24 #[.int .u8 c.toNat] w fun e w' => e = .returned (.bool (isDg c)) ∧ w' = w := by
  go_enter Tryz.func24, Tryz.ntmps24
  go_wp2
  all_goals
    go_ret
    exact ⟨ret_bool (by rw [Bool.eq_iff_iff]; simp only [isDg, Bool.and_eq_true, Bool.or_eq_true, decide_eq_true_eq, beq_iff_eq, Bool.false_eq_true, true_iff, false_iff]; omega), rfl⟩
theorem rletter_any (c : UInt8) (w : World) :
    Calls Tryz.prog 14 #[.int .u8 c.toNat] w fun e w' => e = .returned (.bool (isLt c)) ∧ w' = w := by
  go_enter Tryz.func14, Tryz.ntmps14
  go_wp2
  all_goals
    go_ret
    exact ⟨ret_bool (by rw [Bool.eq_iff_iff]; simp only [isLt, Bool.and_eq_true, Bool.or_eq_true, decide_eq_true_eq, beq_iff_eq, Bool.false_eq_true, true_iff, false_iff]; omega), rfl⟩
theorem rtruth_any (b : Bool) (w : World) :
    Calls Tryz.prog 25 #[.bool b] w fun e w' => e = .returned (.int .i64 (truth b)) ∧ w' = w := by
  cases b <;>
  (go_enter Tryz.func25, Tryz.ntmps25
   go_wp2
   go_ret
   exact ⟨rfl, rfl⟩)
/-- the reader's block: the text, the place, how deep, what was given, what was set, is something wrong, the error. -/
def RD (W : World) (p : Nat) (s : ByteArray) (k d : Nat) (gv sv : Value) (form : Bool) (err : Int) : Prop :=
  W.heap[p]? = some (.cells #[.string s, .int .i64 k, .int .i64 d, gv, sv, .bool form, .int .i64 err] 33 (0, 0))
section
variable {W W' : World} {p : Nat} {s : ByteArray} {k d : Nat} {gv sv : Value} {form : Bool} {err : Int}
theorem RD.cells (h : RD W p s k d gv sv form err) : W.cell? ⟨p, 0, none⟩ = some (.string s) ∧ W.cell? ⟨p, 1, none⟩ = some (.int .i64 k) ∧ W.cell? ⟨p, 2, none⟩ = some (.int .i64 d) ∧ W.cell? ⟨p, 3, none⟩ = some gv ∧ W.cell? ⟨p, 4, none⟩ = some sv ∧ W.cell? ⟨p, 5, none⟩ = some (.bool form) ∧ W.cell? ⟨p, 6, none⟩ = some (.int .i64 err) ∧ ∀ j, W.frozen? ⟨p, j, none⟩ = false := by
  unfold RD at h
  refine ⟨?_, ?_, ?_, ?_, ?_, ?_, ?_, fun j => Lib.frozen_of_heap h j⟩ <;> rw [Lib.cell_of_heap h] <;> rfl
theorem RD.setAt (h : RD W p s k d gv sv form err) (k' : Nat) : RD (W.setCell ⟨p, 1, none⟩ (.int .i64 k')) p s k' d gv sv form err := heap_set h 1 _
theorem RD.setDeep (h : RD W p s k d gv sv form err) (d' : Nat) : RD (W.setCell ⟨p, 2, none⟩ (.int .i64 d')) p s k d' gv sv form err := heap_set h 2 _
theorem RD.setSet (h : RD W p s k d gv sv form err) (v : Value) : RD (W.setCell ⟨p, 4, none⟩ v) p s k d gv v form err := heap_set h 4 _
theorem RD.setForm (h : RD W p s k d gv sv form err) (b : Bool) : RD (W.setCell ⟨p, 5, none⟩ (.bool b)) p s k d gv sv b err := heap_set h 5 _
theorem RD.setErr (h : RD W p s k d gv sv form err) (e : Int) : RD (W.setCell ⟨p, 6, none⟩ (.int .i64 e)) p s k d gv sv form e := heap_set h 6 _
theorem RD.fr {S : Nat → Prop} (h : RD W p s k d gv sv form err) (f : Fr S W W') (hs : ¬ S p) : RD W' p s k d gv sv form err := (f.block p (heap_lt h) hs).trans h
end
theorem ropen_any (W : World) (p : Nat) (s : ByteArray) (k d : Nat) (gv sv : Value) (form : Bool) (err : Int) (hd : d ≤ 1000) (h : RD W p s k d gv sv form err) :
    Calls Tryz.prog 12 #[.pointer (some ⟨p, 0, none⟩)] W fun e w' => e = .returned (.tuple #[]) ∧ RD w' p s k (d + 1) gv sv (form || decide (24 < d)) err ∧ Fr (· = p) W w' := by
  obtain ⟨c0, c1, c2, c3, c4, c5, c6, fz⟩ := h.cells
  have f2 := fz 2
  have HP := Lib.hid (h.setDeep (d + 1))
  have f5 : (W.setCell ⟨p, 2, none⟩ (.int .i64 ((d : Int) + 1))).frozen? ⟨p, 5, none⟩ = false := (HP.out.cells).2.2.2.2.2.2.2 5
  have e5 : (W.setCell ⟨p, 2, none⟩ (.int .i64 ((d : Int) + 1))).cell? ⟨p, 5, none⟩ = some (.bool form) := (HP.out.cells).2.2.2.2.2.1
  have e2 : (W.setCell ⟨p, 2, none⟩ (.int .i64 ((d : Int) + 1))).cell? ⟨p, 2, none⟩ = some (.int .i64 ((d : Int) + 1)) := (HP.out.cells).2.2.1
  have F1 := Lib.hid (Fr.one W p 2 (.int .i64 ((d : Int) + 1)))
  by_cases h24 : 24 < d
  · have HD := Lib.hid (show (form || decide (24 < d)) = true by simp [h24])
    rw [HD.out]
    clear c0 c1 c3 c4 c6 fz h
    go_enter Tryz.func12, Tryz.ntmps12
    go_wp2
    refine bodyPost_end (results_none rfl _ _ _) rfl ?_
    exact ⟨rfl, HP.out.setForm true, F1.out.setCell (p := ⟨p, 5, none⟩) (.inl rfl) _⟩
  · have HD := Lib.hid (show (form || decide (24 < d)) = form by simp [h24])
    rw [HD.out]
    clear c0 c1 c3 c4 c6 fz h
    go_enter Tryz.func12, Tryz.ntmps12
    go_wp2
    refine bodyPost_end (results_none rfl _ _ _) rfl ?_
    exact ⟨rfl, HP.out, F1.out⟩
end Go.Proofs.YtbmnngliapmgfaaGreatDoor
