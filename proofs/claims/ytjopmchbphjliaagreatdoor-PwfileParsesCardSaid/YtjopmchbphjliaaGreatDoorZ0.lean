/- What the walk of PwfileFinds asks beside the contracts. -/
import Derived.Test.YtjopmchbphjliaaGreatDoorD2
import Derived.Test.YtjopmchbphjliaaGreatDoorE1
import Derived.Test.YtjopmchbphjliaaGreatDoorH1
namespace Go.Proofs.YtjopmchbphjliaaGreatDoor
open Go.RowKit Go.Shelf

theorem small_max (p : ByteArray) (h : p.size ≤ 140737488351232) : p.size ≤ maxLen := by unfold maxLen; omega
theorem same_at (p q : Option Addr) (n cap cap2 : Nat) (us : List Usr) (w : World) (hin : InUsers w p n us) (hin2 : InUsers w q n us) (hn : n ≤ maxLen) :
    Calls Tryz.prog 9 #[.slice p n cap, .slice q n cap2] w fun e w' => e = .returned (.bool true) ∧ Below w.heap.size w w' := by
  refine (same_any p q n n cap cap2 us us w hin hin2 hn hn).mono ?_
  rintro e w' ⟨rfl, hd⟩
  exact ⟨by rw [(sameS_iff us us).2 rfl], dr_below hd⟩
theorem chU_mem (q : Usr → Bool) (p : ByteArray) (us : List Usr) (hp : p.size ≤ maxLen) (h : ∀ u ∈ us, OkU u) (h0 : OkU (findU q us)) : ∀ u ∈ chU q p us, OkU u := by
  intro u hu
  unfold chU at hu
  rcases List.mem_or_eq_of_mem_set hu with h1 | h1
  · exact h u h1
  · subst h1
    obtain ⟨a, _, c⟩ := h0
    exact ⟨a, hp, c⟩
theorem cs_ok (q : Usr → Bool) (t : ByteArray) (vs : List Usr) (ht : t.size ≤ maxLen) (h : ∀ u ∈ vs, OkU u) : ∀ u ∈ (if vs.any q = true then chU q t vs else []), OkU u := by
  by_cases ha : vs.any q = true
  · rw [if_pos ha]
    refine chU_mem q t vs ht h ?_
    have h0 : 0 ≤ findI q vs := by
      have := findI_any q vs
      rw [ha] at this
      exact of_decide_eq_true this
    obtain ⟨j, _, hj, _⟩ := found_at q vs h0
    exact h _ (List.mem_of_getElem? hj)
  · rw [if_neg ha]; intro u hu; cases hu
theorem change_out {W : World} {base n : Nat} {v : Value} {a : Bool} {cs0 cs : List Usr} (h : if a = true then W.ownsRow base 29 6 v n (usCells cs0) else v = .slice none 0 0) (hl : cs0.length = n) (hcs : (if a = true then cs0 else []) = cs) :
    ∃ q m c, v = .slice q m c ∧ m = cs.length ∧ W.ownsRow base 29 6 (.slice q cs.length c) cs.length (usCells cs) := by
  cases a
  · have hv : v = .slice none 0 0 := h
    have hc : [] = cs := hcs
    subst hv hc
    exact ⟨none, 0, 0, rfl, rfl, rfl, .inl ⟨rfl, rfl⟩⟩
  · have hv : W.ownsRow base 29 6 v n (usCells cs0) := h
    have hc : cs0 = cs := hcs
    subst hc hl
    rcases hv.2 with ⟨h1, h2⟩ | ⟨g, c, cur, h1, h2⟩
    · refine ⟨none, 0, 0, h1, h2.symm, ?_⟩
      rw [h2] at hv ⊢
      rw [h1] at hv; exact hv
    · subst h1
      exact ⟨_, _, _, rfl, rfl, hv⟩
def loRel (H : Nat) (x : World) (q : Option Addr) (n c : Nat) (i : Value) (wr : World) : Prop :=
  ∃ k : Nat, k ≤ n ∧ i = .int .i64 k ∧ Below H x wr ∧ ∃ xs, wr.ownsRow H 29 6 (.slice q n c) n xs
theorem row_some {W : World} {H g n c : Nat} {xs : List Value} (h : W.ownsRow H 29 6 (.slice (some ⟨g, 0, none⟩) n c) n xs) (j : Nat) (hj : j < n * 6) : ∃ v, W.cell? ⟨g, j, none⟩ = some v := by
  have hl := h.1
  exact ⟨xs[j]'(by omega), by rw [h.cellAt j hj]; exact List.getElem?_eq_getElem _⟩
abbrev st6k (W : World) (g o : Nat) (a b c d e f : Value) : World :=
  (((((W.setCell ⟨g, o, none⟩ a).setCell ⟨g, o + 1, none⟩ b).setCell ⟨g, o + 2, none⟩ c).setCell ⟨g, o + 3, none⟩ d).setCell ⟨g, o + 4, none⟩ e).setCell ⟨g, o + 5, none⟩ f
theorem wipe_row {W : World} {H g n c0 : Nat} {xs : List Value} (h : W.ownsRow H 29 6 (.slice (some ⟨g, 0, none⟩) n c0) n xs) (o : Nat) (a b c d e f : Value) : ∃ ys, (st6k W g o a b c d e f).ownsRow H 29 6 (.slice (some ⟨g, 0, none⟩) n c0) n ys := by
  have h1 := (h.stored o a).1
  have h2 := (h1.stored (o + 1) b).1
  have h3 := (h2.stored (o + 2) c).1
  have h4 := (h3.stored (o + 3) d).1
  have h5 := (h4.stored (o + 4) e).1
  exact ⟨_, (h5.stored (o + 5) f).1⟩
theorem wipe_below {W : World} {g n : Nat} (hn : n ≤ g) (o : Nat) (a b c d e f : Value) : Below n W (st6k W g o a b c d e f) :=
  ((((((Below.refl n W).setCell (p := ⟨g, o, none⟩) hn _).setCell (p := ⟨g, o + 1, none⟩) hn _).setCell (p := ⟨g, o + 2, none⟩) hn _).setCell (p := ⟨g, o + 3, none⟩) hn _).setCell (p := ⟨g, o + 4, none⟩) hn _).setCell (p := ⟨g, o + 5, none⟩) hn _
end Go.Proofs.YtjopmchbphjliaaGreatDoor
