/- The node of a command while it is read. -/
import Derived.Test.YtoahgblgchmclaaPO
import Derived.Test.YtoahgblgchmclaaAT0
namespace Go.Proofs.Ytoahgblgchmclaa
open Go.RowKit
set_option linter.unusedVariables false
set_option linter.unusedSimpArgs false
section
variable {W w w' : World} {n p g cap T : Nat} {K : Nat → Prop} {all : List Tk} {nv : Value} {s t u : S} {m : Nd} {sv wv rv v' : Value}
/-- the node at T, its rows, the parser. -/
structure SN (W : World) (n : Nat) (K : Nat → Prop) (p g cap : Nat) (all : List Tk) (nv : Value) (T : Nat) (w : World) (t : S) (m : Nd) (sv wv rv : Value) : Prop where
  pm : PM w n K p g cap all nv t
  fr : Fr (· = p) W w
  hT : w.heap[T]? = some (.cells #[.int .i64 1, .string ⟨#[]⟩, .bool false, sv, wv, rv, .slice none 0 0, .slice none 0 0] 32 (0, 0))
  sets : Strs w (own1 sv) sv m.sets
  words : Strs w (own1 wv) wv m.words
  reds : Rds w (own1 rv) rv m.redirs
  fs : Fresh W sv
  fw : Fresh W wv
  fd : Fresh W rv
  dis : ∀ k, own1 sv k → ¬ own1 wv k
  tW : W.heap.size ≤ T
  pW : p < W.heap.size
  nvW : ∀ k, nv.ownBlock = some k → k < W.heap.size
  kW : ∀ k, K k → k < W.heap.size
theorem SN.cells (h : SN W n K p g cap all nv T w t m sv wv rv) : w.cell? ⟨T, 0, none⟩ = some (.int .i64 1) ∧ w.cell? ⟨T, 1, none⟩ = some (.string ⟨#[]⟩) ∧ w.cell? ⟨T, 2, none⟩ = some (.bool false) ∧ w.cell? ⟨T, 3, none⟩ = some sv ∧ w.cell? ⟨T, 4, none⟩ = some wv ∧ w.cell? ⟨T, 5, none⟩ = some rv ∧ w.cell? ⟨T, 6, none⟩ = some (.slice none 0 0) ∧ w.cell? ⟨T, 7, none⟩ = some (.slice none 0 0) :=
  ⟨by rw [Lib.cell_of_heap h.hT]; rfl, by rw [Lib.cell_of_heap h.hT]; rfl, by rw [Lib.cell_of_heap h.hT]; rfl, by rw [Lib.cell_of_heap h.hT]; rfl, by rw [Lib.cell_of_heap h.hT]; rfl, by rw [Lib.cell_of_heap h.hT]; rfl, by rw [Lib.cell_of_heap h.hT]; rfl, by rw [Lib.cell_of_heap h.hT]; rfl⟩
theorem SN.fz (h : SN W n K p g cap all nv T w t m sv wv rv) (j : Nat) : w.frozen? ⟨T, j, none⟩ = false := Lib.frozen_of_heap h.hT j
theorem SN.tp (h : SN W n K p g cap all nv T w t m sv wv rv) : ¬ T = p := by have := h.tW; have := h.pW; omega
theorem SN.call0 (h : SN W n K p g cap all nv T w t m sv wv rv) (f : Fr (fun _ => False) w w') : SN W n K p g cap all nv T w' t m sv wv rv :=
  ⟨h.pm.fr f, h.fr.trans (f.mono fun _ _ e => e.elim), (f.block _ (heap_lt h.hT) id).trans h.hT, h.sets.fr f (Tp.none _), h.words.fr f (Tp.none _), h.reds.fr f (Tp.none _), h.fs, h.fw, h.fd, h.dis, h.tW, h.pW, h.nvW, h.kW⟩
theorem SN.dr (h : SN W n K p g cap all nv T w t m sv wv rv) : SN W n K p g cap all nv T w.drew t m sv wv rv := h.call0 (Fr.refl _ _).drew
theorem SN.al (h : SN W n K p g cap all nv T w t m sv wv rv) (O : Obj) : SN W n K p g cap all nv T (w.alloc O) t m sv wv rv := h.call0 ((Fr.refl _ _).alloc O)
theorem SN.call (h : SN W n K p g cap all nv T w t m sv wv rv) (hp : PM w' n K p g cap all nv u) (f : Fr (· = p) w w') : SN W n K p g cap all nv T w' u m sv wv rv :=
  ⟨hp, h.fr.trans f, (f.block _ (heap_lt h.hT) h.tp).trans h.hT, h.sets.fr f h.pm.tp, h.words.fr f h.pm.tp, h.reds.fr f h.pm.tp, h.fs, h.fw, h.fd, h.dis, h.tW, h.pW, h.nvW, h.kW⟩
/-- the node's block is no row of texts or redirections. -/
theorem SN.tne (h : SN W n K p g cap all nv T w t m sv wv rv) {B z k : Nat} {e : TypeId} {v : Value} {xs : List Value} (ho : w.ownsRow B e z v k xs) (he : e ≠ 32) : ¬ own1 v T := fun hk => by
  obtain ⟨_, _, cur, fz, hc⟩ := ownz_type ho hk
  rw [h.hT] at hc
  cases hc
  exact he rfl
/-- what stands in T's own block matters to nobody else. -/
theorem SN.setPM (h : SN W n K p g cap all nv T w t m sv wv rv) (j : Nat) (v : Value) : PM (w.setCell ⟨T, j, none⟩ v) n K p g cap all nv t := by
  have f : Fr (· = T) w (w.setCell ⟨T, j, none⟩ v) := Fr.one w T j v
  have ht : Tp w (· = T) := fun k hk _ => by subst hk; exact ⟨_, _, _, h.hT, .inr rfl⟩
  have hn : ∀ k, nv.ownBlock = some k → ¬ k = T := fun k hk e => by have := h.nvW k hk; have := h.tW; omega
  exact ⟨(f.block p (heap_lt h.pm.cell) (fun e => h.tp e.symm)).trans h.pm.cell, h.pm.x.fr f ht hn⟩
theorem SN.setTp (h : SN W n K p g cap all nv T w t m sv wv rv) : Tp w (· = T) := fun k hk _ => by subst hk; exact ⟨_, _, _, h.hT, .inr rfl⟩
/-- a row has grown, and lies in the node. -/
theorem SN.grow0 {B z k : Nat} {e : TypeId} {v : Value} {xs : List Value} (h : SN W n K p g cap all nv T w t m sv wv rv) (f : Fr (own1 v) w w') (ho : w.ownsRow B e z v k xs) (he : e ≠ 48 ∧ e ≠ 32 ∧ e ≠ 40) (hf : Fresh W v) (j : Nat) (x : Value) :
    PM (w'.setCell ⟨T, j, none⟩ x) n K p g cap all nv t ∧ Fr (· = p) W (w'.setCell ⟨T, j, none⟩ x) ∧ w'.heap[T]? = some (.cells #[.int .i64 1, .string ⟨#[]⟩, .bool false, sv, wv, rv, .slice none 0 0, .slice none 0 0] 32 (0, 0)) := by
  have hm : PM w' n K p g cap all nv t := h.pm.app f ho (fun i e hk => by have h1 := hf i e; have h2 := h.kW i hk; omega) he
  have hT : w'.heap[T]? = _ := (f.block T (heap_lt h.hT) (h.tne ho he.2.1)).trans h.hT
  have f1 : Fr (· = T) w' (w'.setCell ⟨T, j, none⟩ x) := Fr.one w' T j x
  have ht : Tp w' (· = T) := fun k hk _ => by subst hk; exact ⟨_, _, _, hT, .inr rfl⟩
  have hn : ∀ k, nv.ownBlock = some k → ¬ k = T := fun k hk e => by have := h.nvW k hk; have := h.tW; omega
  exact ⟨⟨(f1.block p (heap_lt hm.cell) (fun e => h.tp e.symm)).trans hm.cell, hm.x.fr f1 ht hn⟩, (h.fr.app f hf).setCell (p := ⟨T, j, none⟩) (.inr h.tW) x, hT⟩
theorem strs_set {K1 : Nat → Prop} {v : Value} {l : List Bs} {j : Nat} {x : Value} (h : Strs w K1 v l) (ht : Tp w (· = T)) : Strs (w.setCell ⟨T, j, none⟩ x) K1 v l := h.fr (Fr.one w T j x) ht
theorem rds_set {K1 : Nat → Prop} {v : Value} {l : List Rd} {j : Nat} {x : Value} (h : Rds w K1 v l) (ht : Tp w (· = T)) : Rds (w.setCell ⟨T, j, none⟩ x) K1 v l := h.fr (Fr.one w T j x) ht
theorem own_ne {v1 v2 : Value} {B1 z1 k1 B2 z2 k2 : Nat} {e1 e2 : TypeId} {x1 x2 : List Value} (h1 : w.ownsRow B1 e1 z1 v1 k1 x1) (h2 : w.ownsRow B2 e2 z2 v2 k2 x2) (he : e1 ≠ e2) : ∀ k, own1 v1 k → ¬ own1 v2 k := fun k a b => by
  obtain ⟨_, _, c1, f1, hc1⟩ := ownz_type h1 a
  obtain ⟨_, _, c2, f2, hc2⟩ := ownz_type h2 b
  rw [hc1] at hc2
  cases hc2
  exact he rfl
theorem SN.addR {x : Value} {r : Rd} (h : SN W n K p g cap all nv T w t m sv wv rv) (f : Fr (own1 rv) w w') (hr : Rds w' (own1 x) x (m.redirs ++ [r])) (hx : Fresh W x) :
    SN W n K p g cap all nv T (w'.setCell ⟨T, 5, none⟩ x) t { m with redirs := m.redirs ++ [r] } sv wv x := by
  obtain ⟨h1, h2, h3⟩ := h.grow0 f h.reds.1 ⟨by decide, by decide, by decide⟩ h.fd 5 x
  have ht : Tp w' (· = T) := fun k hk _ => by subst hk; exact ⟨_, _, _, h3, .inr rfl⟩
  exact ⟨h1, h2, heap_set h3 5 x, strs_set (h.sets.keep f (own_ne h.sets.1 h.reds.1 (by decide))) ht, strs_set (h.words.keep f (own_ne h.words.1 h.reds.1 (by decide))) ht, rds_set hr ht, h.fs, h.fw, hx, h.dis, h.tW, h.pW, h.nvW, h.kW⟩
theorem SN.addS {x : Value} {y : Bs} (h : SN W n K p g cap all nv T w t m sv wv rv) (f : Fr (own1 sv) w w') (hr : Strs w' (own1 x) x (m.sets ++ [y])) (hx : Fresh W x) (hn : ∀ k, own1 x k → own1 sv k ∨ w.heap.size ≤ k) :
    SN W n K p g cap all nv T (w'.setCell ⟨T, 3, none⟩ x) t { m with sets := m.sets ++ [y] } x wv rv := by
  obtain ⟨h1, h2, h3⟩ := h.grow0 f h.sets.1 ⟨by decide, by decide, by decide⟩ h.fs 3 x
  have ht : Tp w' (· = T) := fun k hk _ => by subst hk; exact ⟨_, _, _, h3, .inr rfl⟩
  exact ⟨h1, h2, heap_set h3 3 x, strs_set hr ht, strs_set (h.words.keep f (fun k hk hs => h.dis k hs hk)) ht, rds_set (h.reds.keep f (own_ne h.reds.1 h.sets.1 (by decide))) ht, hx, h.fw, h.fd, fun k hk hw => by
    rcases hn k hk with e | e
    · exact h.dis k e hw
    · have := (ownz_type h.words.1 hw).2.1; omega, h.tW, h.pW, h.nvW, h.kW⟩
theorem SN.addW {x : Value} {y : Bs} (h : SN W n K p g cap all nv T w t m sv wv rv) (f : Fr (own1 wv) w w') (hr : Strs w' (own1 x) x (m.words ++ [y])) (hx : Fresh W x) (hn : ∀ k, own1 x k → own1 wv k ∨ w.heap.size ≤ k) :
    SN W n K p g cap all nv T (w'.setCell ⟨T, 4, none⟩ x) t { m with words := m.words ++ [y] } sv x rv := by
  obtain ⟨h1, h2, h3⟩ := h.grow0 f h.words.1 ⟨by decide, by decide, by decide⟩ h.fw 4 x
  have ht : Tp w' (· = T) := fun k hk _ => by subst hk; exact ⟨_, _, _, h3, .inr rfl⟩
  exact ⟨h1, h2, heap_set h3 4 x, strs_set (h.sets.keep f h.dis) ht, strs_set hr ht, rds_set (h.reds.keep f (own_ne h.reds.1 h.words.1 (by decide))) ht, h.fs, hx, h.fd, fun k hk hw => by
    rcases hn k hw with e | e
    · exact h.dis k hk e
    · have := (ownz_type h.sets.1 hk).2.1; omega, h.tW, h.pW, h.nvW, h.kW⟩
/-- the node is listed. -/
theorem SN.done (h : SN W n K p g cap all nv T w t m sv wv rv) (hm : m = ⟨1, [], false, m.sets, m.words, m.redirs, [], []⟩) (hp : pot t + 1 ≤ 100000) :
    Calls Try.prog 42 #[.pointer (some ⟨p, 0, none⟩), .agg #[.int .i64 1, .string ⟨#[]⟩, .bool false, sv, wv, rv, .slice none 0 0, .slice none 0 0]] w fun e w' => e = .returned (.int .i64 (t.add m).1) ∧ ∃ nv' K', PM w' n K' p g cap all nv' (t.add m).2 ∧ Go p nv nv' K K' W w' := by
  have hk : ∀ k, (K k ∨ own1 sv k ∨ own1 wv k ∨ own1 rv k) → K k ∨ W.heap.size ≤ k := fun k e => by
    rcases e with e | e | e | e
    · exact .inl e
    · exact .inr (h.fs k e)
    · exact .inr (h.fw k e)
    · exact .inr (h.fd k e)
  have hb : ∀ k, (K k ∨ own1 sv k ∨ own1 wv k ∨ own1 rv k) → k < w.heap.size := fun k e => by
    rcases e with e | e | e | e
    · exact h.pm.x.kb k e
    · exact (ownz_type h.sets.1 e).2.1
    · exact (ownz_type h.words.1 e).2.1
    · exact (ownz_type h.reds.1 e).2.1
  have key := add_any (K' := fun k => K k ∨ own1 sv k ∨ own1 wv k ∨ own1 rv k) h.pm ⟨1, [], false, m.sets, m.words, m.redirs, [], []⟩ (fun k e => .inl e) hb (h.sets.mono fun k e => .inr (.inl e)) (h.words.mono fun k e => .inr (.inr (.inl e))) (h.reds.mono fun k e => .inr (.inr (.inr e))) (Pats.nil w _) (Ints.nil w _) hp
  rw [show t.add m = t.add ⟨1, [], false, m.sets, m.words, m.redirs, [], []⟩ from congrArg _ hm]
  refine key.mono ?_
  rintro e w' ⟨rfl, nv', hpm, hg⟩
  exact ⟨rfl, nv', _, hpm, (Go.of h.fr).add hg hk⟩
end
end Go.Proofs.Ytoahgblgchmclaa
