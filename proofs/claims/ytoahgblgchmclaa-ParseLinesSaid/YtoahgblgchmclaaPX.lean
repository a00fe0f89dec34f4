/- The node of a compound while it is read. -/
import Derived.Test.YtoahgblgchmclaaPV
namespace Go.Proofs.Ytoahgblgchmclaa
open Go.RowKit
set_option linter.unusedVariables false
set_option linter.unusedSimpArgs false
section
variable {W w w' : World} {n p g cap T : Nat} {K Kt K2 X : Nat → Prop} {all : List Tk} {nv nvt nv2 wv rv pv kv x : Value} {s t u : S} {m : Nd}
/-- the node at T, its rows, what has happened since. -/
structure CN (W : World) (n : Nat) (K : Nat → Prop) (p g cap : Nat) (all : List Tk) (nv : Value) (T : Nat) (w : World) (t : S) (nvt : Value) (Kt X : Nat → Prop) (m : Nd) (wv rv pv kv : Value) : Prop where
  pm : PM w n Kt p g cap all nvt t
  go : Go p nv nvt K Kt W w
  hT : w.heap[T]? = some (.cells #[.int .i64 m.kind, .string (st m.name), .bool m.inn, .slice none 0 0, wv, rv, pv, kv] 32 (0, 0))
  sets : m.sets = []
  words : Strs w X wv m.words
  reds : Rds w X rv m.redirs
  pats : Pats w X pv m.pats
  kids : Ints w X kv m.kids
  xf : ∀ k, X k → W.heap.size ≤ k
  xm : ∀ k, X k → ¬ Kt k
  xw : ∀ k, X k → k < w.heap.size
  tW : W.heap.size ≤ T
  tp : ¬ T = p
  tn : ¬ nvt.ownBlock = some T
theorem CN.start (hp : PM w n Kt p g cap all nvt t) (k : Go p nv nvt K Kt W w) (kd : Int) (nm : Bs) : CN W n K p g cap all nv w.heap.size (w.alloc (.cells #[.int .i64 kd, .string (st nm), .bool false, .slice none 0 0, .slice none 0 0, .slice none 0 0, .slice none 0 0, .slice none 0 0] 32)) t nvt Kt (fun _ => False) ⟨kd, nm, false, [], [], [], [], []⟩ (.slice none 0 0) (.slice none 0 0) (.slice none 0 0) (.slice none 0 0) :=
  ⟨hp.alc, k.al _, heap_alloc_new _ _, rfl, Strs.nil _ _, Rds.nil _ _, Pats.nil _ _, Ints.nil _ _, fun _ e => e.elim, fun _ e => e.elim, fun _ e => e.elim, k.fr.size, by have := heap_lt hp.cell; omega, fun e => by
    obtain ⟨cs, h1, _⟩ := hp.x.nds
    have := (ownz_type h1 e).2.1
    omega⟩
theorem CN.start0 (hp : PM w n Kt p g cap all nvt t) (k : Go p nv nvt K Kt W w) (kd : Int) : CN W n K p g cap all nv w.heap.size (w.alloc (.cells #[.int .i64 kd, .string ⟨#[]⟩, .bool false, .slice none 0 0, .slice none 0 0, .slice none 0 0, .slice none 0 0, .slice none 0 0] 32)) t nvt Kt (fun _ => False) ⟨kd, [], false, [], [], [], [], []⟩ (.slice none 0 0) (.slice none 0 0) (.slice none 0 0) (.slice none 0 0) := CN.start hp k kd []
theorem CN.cells (h : CN W n K p g cap all nv T w t nvt Kt X m wv rv pv kv) : w.cell? ⟨T, 0, none⟩ = some (.int .i64 m.kind) ∧ w.cell? ⟨T, 1, none⟩ = some (.string (st m.name)) ∧ w.cell? ⟨T, 2, none⟩ = some (.bool m.inn) ∧ w.cell? ⟨T, 3, none⟩ = some (.slice none 0 0) ∧ w.cell? ⟨T, 4, none⟩ = some wv ∧ w.cell? ⟨T, 5, none⟩ = some rv ∧ w.cell? ⟨T, 6, none⟩ = some pv ∧ w.cell? ⟨T, 7, none⟩ = some kv :=
  ⟨by rw [Lib.cell_of_heap h.hT]; rfl, by rw [Lib.cell_of_heap h.hT]; rfl, by rw [Lib.cell_of_heap h.hT]; rfl, by rw [Lib.cell_of_heap h.hT]; rfl, by rw [Lib.cell_of_heap h.hT]; rfl, by rw [Lib.cell_of_heap h.hT]; rfl, by rw [Lib.cell_of_heap h.hT]; rfl, by rw [Lib.cell_of_heap h.hT]; rfl⟩
theorem CN.fz (h : CN W n K p g cap all nv T w t nvt Kt X m wv rv pv kv) (j : Nat) : w.frozen? ⟨T, j, none⟩ = false := Lib.frozen_of_heap h.hT j
theorem CN.node (h : CN W n K p g cap all nv T w t nvt Kt X m wv rv pv kv) (hp : PM w' n K2 p g cap all nv2 u) (k : Go p nvt nv2 Kt K2 w w') : CN W n K p g cap all nv T w' u nv2 K2 X m wv rv pv kv :=
  ⟨hp, h.go.trans k, k.heap h.hT h.tp h.tn, h.sets, h.pm.strs k h.words, h.pm.rds k h.reds, h.pm.pats k h.pats, h.pm.ints k h.kids, h.xf, fun i e => k.nk (h.xw i e) (h.xm i e), fun i e => Nat.lt_of_lt_of_le (h.xw i e) k.fr.size, h.tW, h.tp, k.ne (heap_lt h.hT) h.tn⟩
theorem CN.call (h : CN W n K p g cap all nv T w t nvt Kt X m wv rv pv kv) (hp : PM w' n Kt p g cap all nvt u) (f : Fr (· = p) w w') : CN W n K p g cap all nv T w' u nvt Kt X m wv rv pv kv := h.node hp (Go.of f)
theorem CN.call0 (h : CN W n K p g cap all nv T w t nvt Kt X m wv rv pv kv) (f : Fr (fun _ => False) w w') : CN W n K p g cap all nv T w' t nvt Kt X m wv rv pv kv := h.node (h.pm.fr f) (Go.of0 f)
/-- a field of the node is set. -/
theorem CN.set (h : CN W n K p g cap all nv T w t nvt Kt X m wv rv pv kv) (j : Nat) (y : Value) : PM (w.setCell ⟨T, j, none⟩ y) n Kt p g cap all nvt t ∧ Go p nv nvt K Kt W (w.setCell ⟨T, j, none⟩ y) ∧ Tp w (· = T) := by
  have ht : Tp w (· = T) := fun k hk _ => by subst hk; exact ⟨_, _, _, h.hT, .inr rfl⟩
  have f : Fr (· = T) w (w.setCell ⟨T, j, none⟩ y) := Fr.one w T j y
  have hn : ∀ k, nvt.ownBlock = some k → ¬ k = T := fun k hk e => h.tn (e ▸ hk)
  refine ⟨⟨(f.block p (heap_lt h.pm.cell) (fun e => h.tp e.symm)).trans h.pm.cell, h.pm.x.fr f ht hn⟩, ⟨h.go.fr.setCell (p := ⟨T, j, none⟩) (.inr h.tW) y, h.go.blk, h.go.kk⟩, ht⟩
theorem CN.sz (h : CN W n K p g cap all nv T w t nvt Kt X m wv rv pv kv) (j : Nat) (y : Value) (Y : Nat → Prop) (hy : ∀ k, Y k → k < w.heap.size) : ∀ k, (X k ∨ Y k) → k < (w.setCell ⟨T, j, none⟩ y).heap.size := fun k e => by
  rw [set_size]
  rcases e with e | e
  · exact h.xw k e
  · exact hy k e
theorem CN.setKids {ks : List Int} {Y : Nat → Prop} (h : CN W n K p g cap all nv T w t nvt Kt X m wv rv pv kv) (hr : Ints w Y x ks) (hf : ∀ k, Y k → W.heap.size ≤ k) (hm : ∀ k, Y k → ¬ Kt k) (hy : ∀ k, Y k → k < w.heap.size) :
    CN W n K p g cap all nv T (w.setCell ⟨T, 7, none⟩ x) t nvt Kt (fun k => X k ∨ Y k) { m with kids := ks } wv rv pv x := by
  obtain ⟨h1, h2, ht⟩ := h.set 7 x
  have f : Fr (· = T) w (w.setCell ⟨T, 7, none⟩ x) := Fr.one w T 7 x
  exact ⟨h1, h2, heap_set h.hT 7 x, h.sets, (h.words.fr f ht).mono fun _ => .inl, (h.reds.fr f ht).mono fun _ => .inl, (h.pats.fr f ht).mono fun _ => .inl, (hr.fr f ht).mono fun _ => .inr, fun k e => e.elim (h.xf k) (hf k), fun k e => e.elim (h.xm k) (hm k), h.sz 7 x Y hy, h.tW, h.tp, h.tn⟩
theorem CN.setWords {l : List Bs} {Y : Nat → Prop} (h : CN W n K p g cap all nv T w t nvt Kt X m wv rv pv kv) (hr : Strs w Y x l) (hf : ∀ k, Y k → W.heap.size ≤ k) (hm : ∀ k, Y k → ¬ Kt k) (hy : ∀ k, Y k → k < w.heap.size) :
    CN W n K p g cap all nv T (w.setCell ⟨T, 4, none⟩ x) t nvt Kt (fun k => X k ∨ Y k) { m with words := l } x rv pv kv := by
  obtain ⟨h1, h2, ht⟩ := h.set 4 x
  have f : Fr (· = T) w (w.setCell ⟨T, 4, none⟩ x) := Fr.one w T 4 x
  exact ⟨h1, h2, heap_set h.hT 4 x, h.sets, (hr.fr f ht).mono fun _ => .inr, (h.reds.fr f ht).mono fun _ => .inl, (h.pats.fr f ht).mono fun _ => .inl, (h.kids.fr f ht).mono fun _ => .inl, fun k e => e.elim (h.xf k) (hf k), fun k e => e.elim (h.xm k) (hm k), h.sz 4 x Y hy, h.tW, h.tp, h.tn⟩
theorem CN.setReds {l : List Rd} {Y : Nat → Prop} (h : CN W n K p g cap all nv T w t nvt Kt X m wv rv pv kv) (hr : Rds w Y x l) (hf : ∀ k, Y k → W.heap.size ≤ k) (hm : ∀ k, Y k → ¬ Kt k) (hy : ∀ k, Y k → k < w.heap.size) :
    CN W n K p g cap all nv T (w.setCell ⟨T, 5, none⟩ x) t nvt Kt (fun k => X k ∨ Y k) { m with redirs := l } wv x pv kv := by
  obtain ⟨h1, h2, ht⟩ := h.set 5 x
  have f : Fr (· = T) w (w.setCell ⟨T, 5, none⟩ x) := Fr.one w T 5 x
  exact ⟨h1, h2, heap_set h.hT 5 x, h.sets, (h.words.fr f ht).mono fun _ => .inl, (hr.fr f ht).mono fun _ => .inr, (h.pats.fr f ht).mono fun _ => .inl, (h.kids.fr f ht).mono fun _ => .inl, fun k e => e.elim (h.xf k) (hf k), fun k e => e.elim (h.xm k) (hm k), h.sz 5 x Y hy, h.tW, h.tp, h.tn⟩
theorem CN.setPats {l : List (List Bs)} {Y : Nat → Prop} (h : CN W n K p g cap all nv T w t nvt Kt X m wv rv pv kv) (hr : Pats w Y x l) (hf : ∀ k, Y k → W.heap.size ≤ k) (hm : ∀ k, Y k → ¬ Kt k) (hy : ∀ k, Y k → k < w.heap.size) :
    CN W n K p g cap all nv T (w.setCell ⟨T, 6, none⟩ x) t nvt Kt (fun k => X k ∨ Y k) { m with pats := l } wv rv x kv := by
  obtain ⟨h1, h2, ht⟩ := h.set 6 x
  have f : Fr (· = T) w (w.setCell ⟨T, 6, none⟩ x) := Fr.one w T 6 x
  exact ⟨h1, h2, heap_set h.hT 6 x, h.sets, (h.words.fr f ht).mono fun _ => .inl, (h.reds.fr f ht).mono fun _ => .inl, (hr.fr f ht).mono fun _ => .inr, (h.kids.fr f ht).mono fun _ => .inl, fun k e => e.elim (h.xf k) (hf k), fun k e => e.elim (h.xm k) (hm k), h.sz 6 x Y hy, h.tW, h.tp, h.tn⟩
theorem CN.setName (h : CN W n K p g cap all nv T w t nvt Kt X m wv rv pv kv) (nm : Bs) : CN W n K p g cap all nv T (w.setCell ⟨T, 1, none⟩ (.string (st nm))) t nvt Kt X { m with name := nm } wv rv pv kv := by
  obtain ⟨h1, h2, ht⟩ := h.set 1 (.string (st nm))
  have f : Fr (· = T) w (w.setCell ⟨T, 1, none⟩ (.string (st nm))) := Fr.one w T 1 _
  exact ⟨h1, h2, heap_set h.hT 1 _, h.sets, h.words.fr f ht, h.reds.fr f ht, h.pats.fr f ht, h.kids.fr f ht, h.xf, h.xm, fun k e => by rw [set_size]; exact h.xw k e, h.tW, h.tp, h.tn⟩
theorem CN.setIn (h : CN W n K p g cap all nv T w t nvt Kt X m wv rv pv kv) (b : Bool) : CN W n K p g cap all nv T (w.setCell ⟨T, 2, none⟩ (.bool b)) t nvt Kt X { m with inn := b } wv rv pv kv := by
  obtain ⟨h1, h2, ht⟩ := h.set 2 (.bool b)
  have f : Fr (· = T) w (w.setCell ⟨T, 2, none⟩ (.bool b)) := Fr.one w T 2 _
  exact ⟨h1, h2, heap_set h.hT 2 _, h.sets, h.words.fr f ht, h.reds.fr f ht, h.pats.fr f ht, h.kids.fr f ht, h.xf, h.xm, fun k e => by rw [set_size]; exact h.xw k e, h.tW, h.tp, h.tn⟩
/-- the node is listed. -/
theorem CN.done (h : CN W n K p g cap all nv T w t nvt Kt X m wv rv pv kv) (hp : pot t + 1 ≤ 100000) :
    Calls Try.prog 42 #[.pointer (some ⟨p, 0, none⟩), .agg #[.int .i64 m.kind, .string (st m.name), .bool m.inn, .slice none 0 0, wv, rv, pv, kv]] w (fun e w' => e = .returned (.int .i64 (t.add m).1) ∧ ∃ nv' K', PM w' n K' p g cap all nv' (t.add m).2 ∧ Go p nv nv' K K' W w') := by
  have key := add_any (K' := fun k => Kt k ∨ X k) h.pm m (sv := .slice none 0 0) (fun k e => .inl e) (fun k e => e.elim (h.pm.x.kb k) (h.xw k)) (by rw [h.sets]; exact Strs.nil _ _) (h.words.mono fun _ => .inr) (h.reds.mono fun _ => .inr) (h.pats.mono fun _ => .inr) (h.kids.mono fun _ => .inr) hp
  refine key.mono ?_
  rintro e w' ⟨rfl, nv', hpm, hg⟩
  exact ⟨rfl, nv', _, hpm, h.go.add hg fun k e => by
    rcases e with e | e
    · exact h.go.kk k e
    · exact .inr (h.xf k e)⟩
theorem KR.from {O : Obj} {ks : List Int} (h : KR (w.alloc O) n Kt p g cap all nvt w' t nv2 K2 kv ks) : KR w n Kt p g cap all nvt w' t nv2 K2 kv ks :=
  ⟨h.pm, (Go.of0 ((Fr.refl _ w).alloc O)).trans h.go, h.row, fun k e => by have := h.fr k e; simp at this; omega, h.mine⟩
/-- a row of kids that a call has made lies in the node. -/
theorem CN.kidsOf {ks : List Int} (h : CN W n K p g cap all nv T w t nvt Kt X m wv rv pv kv) (r : KR w n Kt p g cap all nvt w' u nv2 K2 x ks) :
    CN W n K p g cap all nv T (w'.setCell ⟨T, 7, none⟩ x) u nv2 K2 (fun k => X k ∨ own1 x k) { m with kids := ks } wv rv pv x :=
  (h.node r.pm r.go).setKids r.row (fun k e => Nat.le_trans h.go.fr.size (r.fr k e)) r.mine (fun k e => (ownz_type r.row.1 e).2.1)
theorem CN.wordsOf {l : List Bs} (h : CN W n K p g cap all nv T w t nvt Kt X m wv rv pv kv) (r : WR w n Kt p g cap all nvt w' u x l) :
    CN W n K p g cap all nv T (w'.setCell ⟨T, 4, none⟩ x) u nvt Kt (fun k => X k ∨ own1 x k) { m with words := l } x rv pv kv :=
  (h.call r.pm r.go).setWords r.row (fun k e => Nat.le_trans h.go.fr.size (r.fr k e)) (fun k e hk => by have h1 := r.fr k e; have h2 := h.pm.x.kb k hk; omega) (fun k e => (ownz_type r.row.1 e).2.1)
end
section
variable {W w w' : World} {n p g cap : Nat} {K Kt : Nat → Prop} {all : List Tk} {nv nvt : Value} {s t : S}
theorem lists2_any {L : S → Int × S} {o : Nat} {bd : Int} (hL : Lst L) (HL : LCon L n p g cap all o bd) (h : PM w n Kt p g cap all nvt t) (x y : ByteArray) (a b : Bs) (hx : x = st a) (hy : y = st b) (ha : ¬ a = []) (hb : ¬ b = []) (ho : o ≤ t.opn) (ho2 : t.opn ≤ 25) (hp : pot t + 60 ≤ bd ∧ bd ≤ 60000) (G : Nat) (hG : w.heap.size = G) :
    Calls Try.prog 66 #[.pointer (some ⟨p, 0, none⟩), .slice (some ⟨G, 0, none⟩) 2 2] (w.alloc (.cells #[.string x, .string y] 9)) fun e w' => ∃ v nv' K', e = .returned v ∧ KR w n Kt p g cap all nvt w' (listsG L [b] [] (t.need a)).2 nv' K' v (listsG L [b] [] (t.need a)).1 := by
  subst hx hy hG
  refine (lists_any hL HL (h.alc (O := .cells #[.string (st a), .string (st b)] 9)) w.heap.size 2 a [b] ⟨⟨rfl, .inr ⟨w.heap.size, 2, #[.string (st a), .string (st b)], rfl, Nat.zero_le _, heap_alloc_new w _, Nat.le_refl _, by unfold maxLen; omega, rfl, rfl⟩⟩, fun k e => e⟩ (by intro q hq; simp at hq; rcases hq with rfl | rfl; exact ha; exact hb) ⟨by simp, by simp⟩ ho ho2 hp).mono ?_
  rintro e w' ⟨v, nv', K', rfl, hk⟩
  exact ⟨v, nv', K', rfl, hk.from⟩
theorem lists3_any {L : S → Int × S} {o : Nat} {bd : Int} (hL : Lst L) (HL : LCon L n p g cap all o bd) (h : PM w n Kt p g cap all nvt t) (x y z : ByteArray) (a b c : Bs) (hx : x = st a) (hy : y = st b) (hz : z = st c) (ha : ¬ a = []) (hb : ¬ b = []) (hc : ¬ c = []) (ho : o ≤ t.opn) (ho2 : t.opn ≤ 25) (hp : pot t + 60 ≤ bd ∧ bd ≤ 60000) (G : Nat) (hG : w.heap.size = G) :
    Calls Try.prog 66 #[.pointer (some ⟨p, 0, none⟩), .slice (some ⟨G, 0, none⟩) 3 3] (w.alloc (.cells #[.string x, .string y, .string z] 9)) fun e w' => ∃ v nv' K', e = .returned v ∧ KR w n Kt p g cap all nvt w' (listsG L [b, c] [] (t.need a)).2 nv' K' v (listsG L [b, c] [] (t.need a)).1 := by
  subst hx hy hz hG
  refine (lists_any hL HL (h.alc (O := .cells #[.string (st a), .string (st b), .string (st c)] 9)) w.heap.size 3 a [b, c] ⟨⟨rfl, .inr ⟨w.heap.size, 3, #[.string (st a), .string (st b), .string (st c)], rfl, Nat.zero_le _, heap_alloc_new w _, Nat.le_refl _, by unfold maxLen; omega, rfl, rfl⟩⟩, fun k e => e⟩ (by intro q hq; simp at hq; rcases hq with rfl | rfl | rfl; exact ha; exact hb; exact hc) ⟨by simp, by simp⟩ ho ho2 hp).mono ?_
  rintro e w' ⟨v, nv', K', rfl, hk⟩
  exact ⟨v, nv', K', rfl, hk.from⟩
end
end Go.Proofs.Ytoahgblgchmclaa
