/- Contracts of the nodes' value: choices, operators, assignments; all nodes. -/
import Derived.Test.YtbmnngliapmgfaaGreatDoorAV
namespace Go.Proofs.YtbmnngliapmgfaaGreatDoor
open Go.RowKit
set_option linter.unusedVariables false
set_option linter.unusedSimpArgs false
/-- the variables, and a block X of the call's own beside them. -/
def Bx (w : World) (B vb : Nat) (S : Nat → Prop) (g : List (Bs × Bs)) (o : Own) (X : Nat) (cs : Array Value) : Prop := VT w B vb S g o ∧ ¬ S X ∧ X < w.heap.size ∧ ∀ j v, cs[j]? = some v → w.cell? ⟨X, j, none⟩ = some v
theorem box_in {W : World} {B vb : Nat} {S : Nat → Prop} {g : List (Bs × Bs)} {o : Own} (h : VT W B vb S g o) (cs : Array Value) (t : TypeId) : Bx (W.alloc (.cells cs t)) B vb S g o W.heap.size cs :=
  ⟨h.fresh ((Fr.refl _ _).alloc _), fun hk => by have := (h.lt hk).2; omega, by simp, fun j v hj => by rw [Lib.cell_of_heap (heap_alloc_new W _)]; exact hj⟩
theorem child_any {B vb : Nat} {g : List (Bs × Bs)} {n : Nd} (ih : Evs B vb g n) {w : World} {S : Nat → Prop} {o o' : Own} {X : Nat} {cs : Array Value} {a e : Int} (h : Bx w B vb S g o X cs) (hl : o.length + asgN n ≤ 1000000) (hev : ev g n o = ((a, e), o')) :
    Calls Tryz.prog (fnN n) #[vlN n, .pointer (some ⟨vb, 0, none⟩)] w fun e' w' => e' = .returned (.tuple #[.int .i64 a, .int .i64 e]) ∧ ∃ S', Bx w' B vb S' g o' X cs ∧ Step S S' w w' := by
  have hI := ih o S w h.1 hl
  rw [hev] at hI
  refine hI.mono ?_
  rintro e' w' ⟨rfl, S', hV, hS⟩
  refine ⟨rfl, S', ⟨hV, fun hk => ?_, Nat.lt_of_lt_of_le h.2.2.1 hS.1.size, fun j v hj => hS.1.cell (h.2.2.2 j v hj) h.2.1⟩, hS⟩
  rcases hS.2 _ hk with h1 | h1
  · exact h.2.1 h1
  · have := h.2.2.1; omega
theorem Bx.vt {w : World} {B vb : Nat} {S : Nat → Prop} {g : List (Bs × Bs)} {o : Own} {X : Nat} {cs : Array Value} (h : Bx w B vb S g o X cs) : VT w B vb S g o := h.1
theorem Bx.fresh {w w' : World} {B vb : Nat} {S : Nat → Prop} {g : List (Bs × Bs)} {o : Own} {X : Nat} {cs : Array Value} (h : Bx w B vb S g o X cs) (f : Fr (fun _ => False) w w') : Bx w' B vb S g o X cs :=
  ⟨h.1.fresh f, h.2.1, Nat.lt_of_lt_of_le h.2.2.1 f.size, fun j v hj => f.cell (h.2.2.2 j v hj) id⟩
set_option maxRecDepth 100000 in
set_option maxHeartbeats 2000000 in
theorem ev_cho (B vb : Nat) (g : List (Bs × Bs)) (c y n : Nd) (ihc : Evs B vb g c) (ihy : Evs B vb g y) (ihn : Evs B vb g n) : Evs B vb g (.cho c y n) := by
  intro o S W h hl
  show Calls Tryz.prog 125 #[.agg #[enc c, enc y, enc n], .pointer (some ⟨vb, 0, none⟩)] W (evPost B vb g S W (ev g (.cho c y n) o))
  simp only [asgN] at hl
  rw [enc_form c, enc_form y, enc_form n, ev]
  rcases hev : ev g c o with ⟨⟨a, e⟩, o1⟩
  have hlen := ev_len g c o
  rw [hev] at hlen
  dsimp only at hlen
  have HS0 := Lib.hid (Step.new (S := S) ((Fr.refl _ W).alloc (.cells #[.iface (tyN c) (vlN c), .iface (tyN y) (vlN y), .iface (tyN n) (vlN n)] 87)))
  have HC := Lib.hid (child_any ihc (box_in h #[.iface (tyN c) (vlN c), .iface (tyN y) (vlN y), .iface (tyN n) (vlN n)] 87) (by omega) hev)
  have hmc := meth c
  have hic := meth_in c
  dsimp only
  by_cases he : e = 0
  · subst he
    rw [if_pos rfl]
    by_cases ha : a = 0
    · subst ha
      rw [if_pos rfl]
      rcases hev2 : ev g n o1 with ⟨⟨a2, e2⟩, o2⟩
      have HN := Lib.hid (fun w S' (h' : Bx w B vb S' g o1 W.heap.size #[.iface (tyN c) (vlN c), .iface (tyN y) (vlN y), .iface (tyN n) (vlN n)]) => child_any ihn h' (by omega) hev2)
      have hmn := meth n
      have hin := meth_in n
      clear hl hlen hev hev2 ihc ihy ihn
      generalize tyN c = tc at *
      generalize vlN c = vc at *
      generalize fnN c = fc at *
      generalize tyN n = tn at *
      generalize vlN n = vn at *
      generalize fnN n = fn at *
      generalize tyN y = ty at *
      generalize vlN y = vy at *
      go_enter Tryz.func125, Tryz.ntmps125
      go_wp2_with (first
        | ((with_reducible refine HC.out.mono ?_); rintro e w1 ⟨rfl, S1, hB, hS⟩; have HB1 := Lib.hid hB; have HS1 := Lib.hid hS; have hlt1 := hB.2.2.1; have c0 := hB.2.2.2 0 _ rfl; have c1 := hB.2.2.2 1 _ rfl; have c2 := hB.2.2.2 2 _ rfl; clear hB hS)
        | ((with_reducible refine (HN.out _ _ HB1.out).mono ?_); rintro e w2 ⟨rfl, S2, hB, hS⟩; have HB2 := Lib.hid hB; have HS2 := Lib.hid hS; clear hB hS))
      go_ret2
      exact ⟨rfl, S2, HB2.out.1, (HS0.out.trans HS1.out).trans HS2.out⟩
    · rw [if_neg ha]
      have hab : (a == 0) = false := by simpa using ha
      rcases hev2 : ev g y o1 with ⟨⟨a2, e2⟩, o2⟩
      have HN := Lib.hid (fun w S' (h' : Bx w B vb S' g o1 W.heap.size #[.iface (tyN c) (vlN c), .iface (tyN y) (vlN y), .iface (tyN n) (vlN n)]) => child_any ihy h' (by omega) hev2)
      have hmn := meth y
      have hin := meth_in y
      clear hl hlen hev hev2 ihc ihy ihn ha
      generalize tyN c = tc at *
      generalize vlN c = vc at *
      generalize fnN c = fc at *
      generalize tyN y = ty at *
      generalize vlN y = vy at *
      generalize fnN y = fy at *
      generalize tyN n = tn at *
      generalize vlN n = vn at *
      go_enter Tryz.func125, Tryz.ntmps125
      go_wp2_with (first
        | ((with_reducible refine HC.out.mono ?_); rintro e w1 ⟨rfl, S1, hB, hS⟩; have HB1 := Lib.hid hB; have HS1 := Lib.hid hS; have hlt1 := hB.2.2.1; have c0 := hB.2.2.2 0 _ rfl; have c1 := hB.2.2.2 1 _ rfl; have c2 := hB.2.2.2 2 _ rfl; clear hB hS)
        | ((with_reducible refine (HN.out _ _ HB1.out).mono ?_); rintro e w2 ⟨rfl, S2, hB, hS⟩; have HB2 := Lib.hid hB; have HS2 := Lib.hid hS; clear hB hS))
      go_ret2
      exact ⟨rfl, S2, HB2.out.1, (HS0.out.trans HS1.out).trans HS2.out⟩
  · rw [if_neg he]
    have he' : (e == 0) = false := by simpa using he
    clear hl hlen hev ihc ihy ihn he
    generalize tyN c = tc at *
    generalize vlN c = vc at *
    generalize fnN c = fc at *
    generalize tyN y = ty at *
    generalize vlN y = vy at *
    generalize tyN n = tn at *
    generalize vlN n = vn at *
    go_enter Tryz.func125, Tryz.ntmps125
    go_wp2_with ((with_reducible refine HC.out.mono ?_); rintro e w1 ⟨rfl, S1, hB, hS⟩; have HB1 := Lib.hid hB; have HS1 := Lib.hid hS; clear hB hS)
    go_ret2
    exact ⟨rfl, S1, HB1.out.1, HS0.out.trans HS1.out⟩
set_option maxRecDepth 100000 in
set_option maxHeartbeats 4000000 in
theorem ev_bin (B vb : Nat) (g : List (Bs × Bs)) (s : Bs) (l r : Nd) (ihl : Evs B vb g l) (ihr : Evs B vb g r) : Evs B vb g (.bin s l r) := by
  intro o S W h hl
  show Calls Tryz.prog 126 #[.agg #[.string (st s), enc l, enc r], .pointer (some ⟨vb, 0, none⟩)] W (evPost B vb g S W (ev g (.bin s l r) o))
  simp only [asgN] at hl
  rw [enc_form l, enc_form r, ev]
  rcases hev : ev g l o with ⟨⟨a, e⟩, o1⟩
  have hlen := ev_len g l o
  rw [hev] at hlen
  dsimp only at hlen
  have HS0 := Lib.hid (Step.new (S := S) ((Fr.refl _ W).alloc (.cells #[.string (st s), .iface (tyN l) (vlN l), .iface (tyN r) (vlN r)] 111)))
  have HC := Lib.hid (child_any ihl (box_in h #[.string (st s), .iface (tyN l) (vlN l), .iface (tyN r) (vlN r)] 111) (by omega) hev)
  have hmc := meth l
  have hic := meth_in l
  dsimp only
  by_cases he : e = 0
  · subst he
    rw [if_pos rfl]
    have hcase : ((s = [38, 38] ∧ a = 0) ∨ (s = [124, 124] ∧ a ≠ 0)) ∨ ¬ ((s = [38, 38] ∧ a = 0) ∨ (s = [124, 124] ∧ a ≠ 0)) := Classical.em _
    rcases hcase with hd | hd
    · rw [if_pos hd]
      obtain ⟨tb, htb⟩ : ∃ tb, (a != 0) = tb := ⟨_, rfl⟩
      have HT := Lib.hid truth_any
      have HTB := Lib.hid htb
      have hb : (((st s).toList == [38, 38]) = true ∧ (a == 0) = true ∧ tb = false) ∨ (((st s).toList == [38, 38]) = false ∧ ((st s).toList == [124, 124]) = true ∧ (a == 0) = false ∧ tb = true) := by
        simp only [st_dec]
        subst htb
        rcases hd with ⟨rfl, rfl⟩ | ⟨rfl, h2⟩
        · exact .inl ⟨by decide, by decide, by decide⟩
        · exact .inr ⟨by decide, by decide, by simpa using h2, by simpa using h2⟩
      rw [htb]
      clear hl hlen hev ihl ihr hd
      generalize tyN l = tc at *
      generalize vlN l = vc at *
      generalize fnN l = fc at *
      generalize tyN r = ty at *
      generalize vlN r = vy at *
      generalize st s = x at *
      clear htb
      rcases hb with ⟨g1, g2, rfl⟩ | ⟨g1, g2, g3, rfl⟩
      all_goals
        go_enter Tryz.func126, Tryz.ntmps126
        go_wp2_with (first
          | (go_at_call 120; (with_reducible refine (HT.out _ _).mono ?_); rintro e w2 ⟨rfl, rfl⟩)
          | ((with_reducible refine HC.out.mono ?_); rintro e w1 ⟨rfl, S1, hB, hS⟩; have HB1 := Lib.hid hB; have HS1 := Lib.hid hS; have hlt1 := hB.2.2.1; have c0 := hB.2.2.2 0 _ rfl; have c1 := hB.2.2.2 1 _ rfl; have c2 := hB.2.2.2 2 _ rfl; clear hB hS))
        go_ret2
        first
          | exact ⟨rfl, S1, HB1.out.1, HS0.out.trans HS1.out⟩
          | exact ⟨ret_two (show Value.int .i64 (truth (a != 0)) = _ by rw [HTB.out]) rfl, S1, HB1.out.1, HS0.out.trans HS1.out⟩
    · rw [if_neg hd]
      rcases hev2 : ev g r o1 with ⟨⟨b, e2⟩, o2⟩
      dsimp only
      have HN := Lib.hid (fun w S' (h' : Bx w B vb S' g o1 W.heap.size #[.string (st s), .iface (tyN l) (vlN l), .iface (tyN r) (vlN r)]) => child_any ihr h' (by omega) hev2)
      have hmn := meth r
      have hin := meth_in r
      have hb : (((st s).toList == [38, 38]) = true ∧ (a == 0) = false ∧ ((st s).toList == [124, 124]) = false) ∨ (((st s).toList == [38, 38]) = false ∧ ((st s).toList == [124, 124]) = true ∧ (a == 0) = true) ∨ (((st s).toList == [38, 38]) = false ∧ ((st s).toList == [124, 124]) = false) := by
        simp only [st_dec]
        by_cases h1 : s = [38, 38]
        · subst h1
          exact .inl ⟨by decide, by have : a ≠ 0 := fun h => hd (.inl ⟨rfl, h⟩); simpa using this, by decide⟩
        · by_cases h2 : s = [124, 124]
          · subst h2
            exact .inr (.inl ⟨by decide, by decide, by have : a = 0 := Classical.byContradiction fun h => hd (.inr ⟨rfl, h⟩); simpa using this⟩)
          · exact .inr (.inr ⟨by simpa using h1, by simpa using h2⟩)
      have HO := Lib.hid (operate_any s a b)
      generalize opI s a b = q at *
      clear hl hlen hev hev2 ihl ihr hd
      generalize tyN l = tc at *
      generalize vlN l = vc at *
      generalize fnN l = fc at *
      generalize tyN r = ty at *
      generalize vlN r = vy at *
      generalize fnN r = fy at *
      generalize st s = x at *
      by_cases he2 : e2 = 0
      · subst he2
        rw [if_pos rfl]
        rcases hb with ⟨g1, g2, g3⟩ | ⟨g1, g2, g3⟩ | ⟨g1, g2⟩
        all_goals
          go_enter Tryz.func126, Tryz.ntmps126
          go_wp2_with (first
            | (go_at_call 114; (with_reducible refine (HO.out _).mono ?_); rintro e w3 ⟨rfl, rfl⟩)
            | ((with_reducible refine HC.out.mono ?_); rintro e w1 ⟨rfl, S1, hB, hS⟩; have HB1 := Lib.hid hB; have HS1 := Lib.hid hS; have hlt1 := hB.2.2.1; have c0 := hB.2.2.2 0 _ rfl; have c1 := hB.2.2.2 1 _ rfl; have c2 := hB.2.2.2 2 _ rfl; clear hB hS)
            | ((with_reducible refine (HN.out _ _ HB1.out).mono ?_); rintro e w2 ⟨rfl, S2, hB, hS⟩; have HB2 := Lib.hid hB; have HS2 := Lib.hid hS; have hlt2 := hB.2.2.1; have d0 := hB.2.2.2 0 _ rfl; clear hB hS))
          go_ret2
          exact ⟨rfl, S2, HB2.out.1, (HS0.out.trans HS1.out).trans HS2.out⟩
      · rw [if_neg he2]
        have he2' : (e2 == 0) = false := by simpa using he2
        clear he2
        rcases hb with ⟨g1, g2, g3⟩ | ⟨g1, g2, g3⟩ | ⟨g1, g2⟩
        all_goals
          go_enter Tryz.func126, Tryz.ntmps126
          go_wp2_with (first
            | ((with_reducible refine HC.out.mono ?_); rintro e w1 ⟨rfl, S1, hB, hS⟩; have HB1 := Lib.hid hB; have HS1 := Lib.hid hS; have hlt1 := hB.2.2.1; have c0 := hB.2.2.2 0 _ rfl; have c1 := hB.2.2.2 1 _ rfl; have c2 := hB.2.2.2 2 _ rfl; clear hB hS)
            | ((with_reducible refine (HN.out _ _ HB1.out).mono ?_); rintro e w2 ⟨rfl, S2, hB, hS⟩; have HB2 := Lib.hid hB; have HS2 := Lib.hid hS; have hlt2 := hB.2.2.1; have d0 := hB.2.2.2 0 _ rfl; clear hB hS))
          go_ret2
          exact ⟨rfl, S2, HB2.out.1, (HS0.out.trans HS1.out).trans HS2.out⟩
  · rw [if_neg he]
    have he' : (e == 0) = false := by simpa using he
    clear hl hlen hev ihl ihr he
    generalize tyN l = tc at *
    generalize vlN l = vc at *
    generalize fnN l = fc at *
    generalize tyN r = ty at *
    generalize vlN r = vy at *
    go_enter Tryz.func126, Tryz.ntmps126
    go_wp2_with ((with_reducible refine HC.out.mono ?_); rintro e w1 ⟨rfl, S1, hB, hS⟩; have HB1 := Lib.hid hB; have HS1 := Lib.hid hS; clear hB hS)
    go_ret2
    exact ⟨rfl, S1, HB1.out.1, HS0.out.trans HS1.out⟩
def combI (g : List (Bs × Bs)) (o : Own) (s t : Bs) (a : Int) : Int × Int := if (getV g o s).2 = 0 then opI t (getV g o s).1 a else (0, (getV g o s).2)
set_option maxRecDepth 100000 in
set_option maxHeartbeats 1000000 in
theorem comb_any {W : World} {B vb : Nat} {S : Nat → Prop} {g : List (Bs × Bs)} {o : Own} (s t : Bs) (ta : TypeId) (va : Value) (a : Int) (h : VT W B vb S g o) (hl : o.length ≤ 1000000) :
    Calls Tryz.prog 111 #[.agg #[.string (st s), .string (st t), .iface ta va], .pointer (some ⟨vb, 0, none⟩), .int .i64 a] W fun e w' => e = .returned (.tuple #[.int .i64 (combI g o s t a).1, .int .i64 (combI g o s t a).2]) ∧ Fr (fun _ => False) W w' := by
  have hF : Fr (fun _ => False) W (W.alloc (.cells #[.string (st s), .string (st t), .iface ta va] 72)) := (Fr.refl _ _).alloc _
  have HG := Lib.hid ((get_any s (h.fresh hF) hl).mono (show ∀ e' w', _ → (e' = .returned (.tuple #[.int .i64 (getV g o s).1, .int .i64 (getV g o s).2]) ∧ W.heap.size < w'.heap.size ∧ w'.cell? ⟨W.heap.size, 1, none⟩ = some (.string (st t)) ∧ Fr (fun _ => False) W w') from by
    rintro e' w' ⟨rfl, hf⟩
    exact ⟨rfl, Nat.lt_of_lt_of_le (by simp) hf.size, hf.cell (by rw [Lib.cell_of_heap (heap_alloc_new W _)]; rfl) id, hF.trans hf⟩))
  have HO := Lib.hid (fun b => operate_any t b a)
  have HI := Lib.hid (show combI g o s t a = _ from rfl)
  clear h hF
  unfold combI
  rcases hgv : getV g o s with ⟨b, e⟩
  rw [hgv] at HG
  clear hgv HI
  dsimp only at HG ⊢
  by_cases he : e = 0
  · subst he
    rw [if_pos rfl]
    have HO := Lib.hid (HO.out b)
    generalize opI t b a = q at *
    generalize st s = x at *
    generalize st t = y at *
    go_enter Tryz.func111, Tryz.ntmps111
    go_wp2_with (first
      | (go_at_call 113; (with_reducible refine HG.out.mono ?_); rintro e w1 ⟨rfl, hlt, c1, hF1⟩; have HF1 := Lib.hid hF1; clear hF1)
      | (go_at_call 114; (with_reducible refine (HO.out _).mono ?_); rintro e w3 ⟨rfl, rfl⟩))
    go_ret2
    exact ⟨rfl, HF1.out⟩
  · rw [if_neg he]
    have he' : (e == 0) = false := by simpa using he
    clear he
    generalize st s = x at *
    generalize st t = y at *
    go_enter Tryz.func111, Tryz.ntmps111
    go_wp2_with (go_at_call 113; (with_reducible refine HG.out.mono ?_); rintro e w1 ⟨rfl, hlt, c1, hF1⟩; have HF1 := Lib.hid hF1; clear hF1)
    go_ret2
    exact ⟨rfl, HF1.out⟩
/-- an assignment, in two steps. -/
def asgP (g : List (Bs × Bs)) (o : Own) (s t : Bs) (a : Int) : (Int × Int) × Own := if t = [] then ((a, 0), setV o s a) else if (combI g o s t a).2 = 0 then (((combI g o s t a).1, 0), setV o s (combI g o s t a).1) else ((0, (combI g o s t a).2), o)
theorem asg_eq (g : List (Bs × Bs)) (o : Own) (s t : Bs) (a : Int) : (if t = [] then ((a, 0), setV o s a)
        else if (getV g o s).2 = 0 then
          if (opI t (getV g o s).1 a).2 = 0 then (((opI t (getV g o s).1 a).1, 0), setV o s (opI t (getV g o s).1 a).1) else ((0, (opI t (getV g o s).1 a).2), o)
        else ((0, (getV g o s).2), o)) = asgP g o s t a := by
  unfold asgP combI
  by_cases h1 : t = []
  · rw [if_pos h1, if_pos h1]
  · rw [if_neg h1, if_neg h1]
    by_cases h2 : (getV g o s).2 = 0
    · simp only [if_pos h2]
    · simp only [if_neg h2]
set_option maxRecDepth 100000 in
set_option maxHeartbeats 4000000 in
theorem ev_asg (B vb : Nat) (g : List (Bs × Bs)) (s t : Bs) (r : Nd) (ih : Evs B vb g r) : Evs B vb g (.asg s t r) := by
  intro o S W h hl
  show Calls Tryz.prog 110 #[.agg #[.string (st s), .string (st t), enc r], .pointer (some ⟨vb, 0, none⟩)] W (evPost B vb g S W (ev g (.asg s t r) o))
  simp only [asgN] at hl
  rw [enc_form r, ev]
  rcases hev : ev g r o with ⟨⟨a, e⟩, o1⟩
  have hlen := ev_len g r o
  rw [hev] at hlen
  dsimp only at hlen
  have HS0 := Lib.hid (Step.new (S := S) ((Fr.refl _ W).alloc (.cells #[.string (st s), .string (st t), .iface (tyN r) (vlN r)] 72)))
  have HC := Lib.hid (child_any ih (box_in h #[.string (st s), .string (st t), .iface (tyN r) (vlN r)] 72) (by omega) hev)
  have hmc := meth r
  have hic := meth_in r
  dsimp only
  by_cases he : e = 0
  · subst he
    rw [if_pos rfl, asg_eq]
    unfold asgP
    have HB0 := Lib.hid (fun (w : World) S' (h' : Bx w B vb S' g o1 W.heap.size #[.string (st s), .string (st t), .iface (tyN r) (vlN r)]) => comb_any s t (tyN r) (vlN r) a h'.1 (by omega))
    have HSET := Lib.hid (fun (w : World) S' (v : Int) (h' : VT w B vb S' g o1) => set_any s v h' (by omega))
    have gt : (st t).toList.isEmpty = decide (t = []) := by rw [st_toList]; cases t <;> rfl
    clear hl hlen hev ih
    by_cases ht : t = []
    · rw [if_pos ht]
      rw [show decide (t = []) = true by simpa using ht] at gt
      clear ht HB0
      generalize tyN r = tc at *
      generalize vlN r = vc at *
      generalize fnN r = fc at *
      generalize st s = x at *
      generalize st t = y at *
      go_enter Tryz.func110, Tryz.ntmps110
      go_wp2_with (first
        | (go_at_call 112; (with_reducible refine (HSET.out _ _ _ HB1.out.vt).mono ?_); rintro e w2 ⟨rfl, S2, hV, hS⟩; have HV2 := Lib.hid hV; have HS2 := Lib.hid hS; clear hV hS)
        | ((with_reducible refine HC.out.mono ?_); rintro e w1 ⟨rfl, S1, hB, hS⟩; have HB1 := Lib.hid hB; have HS1 := Lib.hid hS; have hlt1 := hB.2.2.1; have c0 := hB.2.2.2 0 _ rfl; have c1 := hB.2.2.2 1 _ rfl; have c2 := hB.2.2.2 2 _ rfl; clear hB hS))
      go_ret2
      exact ⟨rfl, S2, HV2.out, (HS0.out.trans HS1.out).trans HS2.out⟩
    · rw [if_neg ht]
      rw [show decide (t = []) = false by simpa using ht] at gt
      rcases hq : combI g o1 s t a with ⟨b, e2⟩
      rw [hq] at HB0
      clear ht hq
      dsimp only at HB0 ⊢
      have HF2 := Lib.hid (fun (w w' : World) S' (h' : Bx w B vb S' g o1 W.heap.size #[.string (st s), .string (st t), .iface (tyN r) (vlN r)]) (f : Fr (fun _ => False) w w') => h'.fresh f)
      generalize tyN r = tc at *
      generalize vlN r = vc at *
      generalize fnN r = fc at *
      generalize st s = x at *
      generalize st t = y at *
      by_cases he2 : e2 = 0
      · subst he2
        rw [if_pos rfl]
        go_enter Tryz.func110, Tryz.ntmps110
        go_wp2_with (first
          | (go_at_call 111; (with_reducible refine (HB0.out _ _ HB1.out).mono ?_); rintro e w2 ⟨rfl, hF⟩; have hB2 := HF2.out _ _ _ HB1.out hF; have HB2 := Lib.hid hB2; have HS2 := Lib.hid (Step.new (S := S1) hF); have hlt2 := hB2.2.2.1; have d0 := hB2.2.2.2 0 _ rfl; clear hB2 hF)
          | (go_at_call 112; (with_reducible refine (HSET.out _ _ _ HB2.out.vt).mono ?_); rintro e w3 ⟨rfl, S3, hV, hS⟩; have HV3 := Lib.hid hV; have HS3 := Lib.hid hS; clear hV hS)
          | ((with_reducible refine HC.out.mono ?_); rintro e w1 ⟨rfl, S1, hB, hS⟩; have HB1 := Lib.hid hB; have HS1 := Lib.hid hS; have hlt1 := hB.2.2.1; have c0 := hB.2.2.2 0 _ rfl; have c1 := hB.2.2.2 1 _ rfl; have c2 := hB.2.2.2 2 _ rfl; clear hB hS))
        go_ret2
        exact ⟨rfl, S3, HV3.out, ((HS0.out.trans HS1.out).trans HS2.out).trans HS3.out⟩
      · rw [if_neg he2]
        have he2' : (e2 == 0) = false := by simpa using he2
        clear he2
        go_enter Tryz.func110, Tryz.ntmps110
        go_wp2_with (first
          | (go_at_call 111; (with_reducible refine (HB0.out _ _ HB1.out).mono ?_); rintro e w2 ⟨rfl, hF⟩; have hB2 := HF2.out _ _ _ HB1.out hF; have HB2 := Lib.hid hB2; have HS2 := Lib.hid (Step.new (S := S1) hF); clear hB2 hF)
          | ((with_reducible refine HC.out.mono ?_); rintro e w1 ⟨rfl, S1, hB, hS⟩; have HB1 := Lib.hid hB; have HS1 := Lib.hid hS; have hlt1 := hB.2.2.1; have c0 := hB.2.2.2 0 _ rfl; have c1 := hB.2.2.2 1 _ rfl; have c2 := hB.2.2.2 2 _ rfl; clear hB hS))
        go_ret2
        exact ⟨rfl, S1, HB2.out.1, (HS0.out.trans HS1.out).trans HS2.out⟩
  · rw [if_neg he]
    have he' : (e == 0) = false := by simpa using he
    clear hl hlen hev ih he
    generalize tyN r = tc at *
    generalize vlN r = vc at *
    generalize fnN r = fc at *
    go_enter Tryz.func110, Tryz.ntmps110
    go_wp2_with ((with_reducible refine HC.out.mono ?_); rintro e w1 ⟨rfl, S1, hB, hS⟩; have HB1 := Lib.hid hB; have HS1 := Lib.hid hS; clear hB hS)
    go_ret2
    exact ⟨rfl, S1, HB1.out.1, HS0.out.trans HS1.out⟩
theorem ev_all (B vb : Nat) (g : List (Bs × Bs)) : ∀ n : Nd, Evs B vb g n
  | .num n => ev_num B vb g n
  | .nam s => ev_nam B vb g s
  | .pre s r => ev_pre B vb g s r (ev_all B vb g r)
  | .bin s l r => ev_bin B vb g s l r (ev_all B vb g l) (ev_all B vb g r)
  | .cho c y n => ev_cho B vb g c y n (ev_all B vb g c) (ev_all B vb g y) (ev_all B vb g n)
  | .asg s t r => ev_asg B vb g s t r (ev_all B vb g r)
end Go.Proofs.YtbmnngliapmgfaaGreatDoor
