/- The parser in memory: tokens, nodes, what changes. -/
import Derived.Test.YtoahgblgchmclaaLK
import Derived.Test.YtoahgblgchmclaaPE
namespace Go.Proofs.Ytoahgblgchmclaa
open Go.RowKit
set_option linter.unusedVariables false
set_option linter.unusedSimpArgs false
section
variable {W W' : World} {B n z : Nat} {e : TypeId} {v : Value} {xs : List Value}
theorem ownz_type (h : W.ownsRow B e z v n xs) {k : Nat} (hk : v.ownBlock = some k) : B ≤ k ∧ k < W.heap.size ∧ ∃ cur fz, W.heap[k]? = some (.cells cur e fz) := by
  rcases h.2 with ⟨rfl, _⟩ | ⟨g, cap, cur, rfl, hb, hg, _⟩
  · simp [Value.ownBlock] at hk
  · simp [Value.ownBlock] at hk
    subst hk
    exact ⟨hb, heap_lt hg, cur, _, hg⟩
theorem ownz_fr {S : Nat → Prop} (h : W.ownsRow B e z v n xs) (f : Fr S W W') (hs : ∀ k, v.ownBlock = some k → ¬ S k) : W'.ownsRow B e z v n xs := by
  refine ⟨h.1, ?_⟩
  rcases h.2 with hn | ⟨g, cap, cur, rfl, hb, hg, rest⟩
  · exact .inl hn
  · exact .inr ⟨g, cap, cur, rfl, hb, (f.block g (heap_lt hg) (hs g rfl)).trans hg, rest⟩
theorem ownz_form (h : W.ownsRow B e z v n xs) : ∃ ao cap, v = .slice ao n cap ∧ n ≤ cap ∧ cap ≤ maxLen ∧ (0 < n → ∃ g, ao = some ⟨g, 0, none⟩) := by
  rcases h.2 with ⟨rfl, rfl⟩ | ⟨g, cap, cur, rfl, _, _, hc, hm, _⟩
  · exact ⟨_, _, rfl, Nat.le_refl _, by unfold maxLen; omega, fun h => by omega⟩
  · exact ⟨_, _, rfl, hc, hm, fun _ => ⟨g, rfl⟩⟩
theorem ownz_weak {B' : Nat} (h : W.ownsRow B e z v n xs) (hb : B' ≤ B) : W.ownsRow B' e z v n xs := by
  refine ⟨h.1, ?_⟩
  rcases h.2 with hn | ⟨g, cap, cur, rfl, h2, rest⟩
  · exact .inl hn
  · exact .inr ⟨g, cap, cur, rfl, Nat.le_trans hb h2, rest⟩
end
/-- what may change: blocks of the parser's and the nodes' types alone. -/
def Tp (W : World) (S : Nat → Prop) : Prop := ∀ k, S k → k < W.heap.size → ∃ cur ty fz, W.heap[k]? = some (.cells cur ty fz) ∧ (ty = 48 ∨ ty = 32)
theorem Tp.none (W : World) : Tp W (fun _ => False) := fun k h => h.elim
theorem Tp.own {W W' : World} {S : Nat → Prop} {B n z : Nat} {e : TypeId} {v : Value} {xs : List Value} (h : W.ownsRow B e z v n xs) (f : Fr S W W') (ht : Tp W S) (he : e ≠ 48 ∧ e ≠ 32) : W'.ownsRow B e z v n xs :=
  ownz_fr h f fun k hk hS => by
    obtain ⟨_, hlt, cur, fz, hc⟩ := ownz_type h hk
    obtain ⟨cur', ty, fz', hc', hty⟩ := ht k hS hlt
    rw [hc] at hc'
    cases hc'
    rcases hty with h | h
    · exact he.1 h
    · exact he.2 h
def strV (t : Bs) : Value := .string (st t)
/-- a row whose block is one of these. -/
def InK (K : Nat → Prop) (v : Value) : Prop := ∀ k, v.ownBlock = some k → K k
def Strs (W : World) (K : Nat → Prop) (v : Value) (l : List Bs) : Prop := W.ownsRow 0 9 1 v l.length (l.map strV) ∧ InK K v
def Ints (W : World) (K : Nat → Prop) (v : Value) (l : List Int) : Prop := W.ownsRow 0 3 1 v l.length (l.map (Value.int .i64)) ∧ InK K v
def rdC (r : Rd) : List Value := [.int .i64 r.fd, .string (st r.op), .string (st r.word)]
def Rds (W : World) (K : Nat → Prop) (v : Value) (l : List Rd) : Prop := W.ownsRow 0 43 3 v l.length (l.flatMap rdC) ∧ InK K v
def Pats (W : World) (K : Nat → Prop) (v : Value) (l : List (List Bs)) : Prop := ∃ vs : List Value, W.ownsRow 0 28 1 v l.length vs ∧ InK K v ∧ vs.length = l.length ∧ ∀ (i : Nat) (u : Value) (x : List Bs), vs[i]? = some u → l[i]? = some x → Strs W K u x
def ndC (n : Nd) (sv wv rv pv kv : Value) : List Value := [.int .i64 n.kind, .string (st n.name), .bool n.inn, sv, wv, rv, pv, kv]
def NdV (W : World) (K : Nat → Prop) (c : List Value) (n : Nd) : Prop := ∃ sv wv rv pv kv, c = ndC n sv wv rv pv kv ∧ Strs W K sv n.sets ∧ Strs W K wv n.words ∧ Rds W K rv n.redirs ∧ Pats W K pv n.pats ∧ Ints W K kv n.kids
def Nds (W : World) (K : Nat → Prop) (v : Value) (ns : List Nd) : Prop := ∃ cs : List (List Value), W.ownsRow 0 32 8 v ns.length cs.flatten ∧ cs.length = ns.length ∧ ∀ (i : Nat) (c : List Value) (n : Nd), cs[i]? = some c → ns[i]? = some n → NdV W K c n
section
variable {W W' : World} {S : Nat → Prop} {K K' : Nat → Prop} {v : Value}
theorem InK.mono (h : InK K v) (hk : ∀ k, K k → K' k) : InK K' v := fun k e => hk k (h k e)
theorem InK.nil (K : Nat → Prop) : InK K (.slice none 0 0) := fun k e => by cases e
theorem Strs.fr {l : List Bs} (h : Strs W K v l) (f : Fr S W W') (ht : Tp W S) : Strs W' K v l := ⟨Tp.own h.1 f ht ⟨by decide, by decide⟩, h.2⟩
theorem Ints.fr {l : List Int} (h : Ints W K v l) (f : Fr S W W') (ht : Tp W S) : Ints W' K v l := ⟨Tp.own h.1 f ht ⟨by decide, by decide⟩, h.2⟩
theorem Rds.fr {l : List Rd} (h : Rds W K v l) (f : Fr S W W') (ht : Tp W S) : Rds W' K v l := ⟨Tp.own h.1 f ht ⟨by decide, by decide⟩, h.2⟩
theorem Pats.fr {l : List (List Bs)} (h : Pats W K v l) (f : Fr S W W') (ht : Tp W S) : Pats W' K v l := by
  obtain ⟨vs, h1, h2, h3, h4⟩ := h
  exact ⟨vs, Tp.own h1 f ht ⟨by decide, by decide⟩, h2, h3, fun i u x hu hx => (h4 i u x hu hx).fr f ht⟩
theorem NdV.fr {c : List Value} {n : Nd} (h : NdV W K c n) (f : Fr S W W') (ht : Tp W S) : NdV W' K c n := by
  obtain ⟨sv, wv, rv, pv, kv, h0, h1, h2, h3, h4, h5⟩ := h
  exact ⟨sv, wv, rv, pv, kv, h0, h1.fr f ht, h2.fr f ht, h3.fr f ht, h4.fr f ht, h5.fr f ht⟩
theorem Nds.fr {ns : List Nd} (h : Nds W K v ns) (f : Fr S W W') (ht : Tp W S) (hv : ∀ k, v.ownBlock = some k → ¬ S k) : Nds W' K v ns := by
  obtain ⟨cs, h1, h2, h3⟩ := h
  exact ⟨cs, ownz_fr h1 f hv, h2, fun i c n hc hn => (h3 i c n hc hn).fr f ht⟩
/-- the same, where what changes is none of these blocks. -/
theorem Strs.keep {l : List Bs} (h : Strs W K v l) (f : Fr S W W') (hs : ∀ k, K k → ¬ S k) : Strs W' K v l := ⟨ownz_fr h.1 f fun k e => hs k (h.2 k e), h.2⟩
theorem Ints.keep {l : List Int} (h : Ints W K v l) (f : Fr S W W') (hs : ∀ k, K k → ¬ S k) : Ints W' K v l := ⟨ownz_fr h.1 f fun k e => hs k (h.2 k e), h.2⟩
theorem Rds.keep {l : List Rd} (h : Rds W K v l) (f : Fr S W W') (hs : ∀ k, K k → ¬ S k) : Rds W' K v l := ⟨ownz_fr h.1 f fun k e => hs k (h.2 k e), h.2⟩
theorem Pats.keep {l : List (List Bs)} (h : Pats W K v l) (f : Fr S W W') (hs : ∀ k, K k → ¬ S k) : Pats W' K v l := by
  obtain ⟨vs, h1, h2, h3, h4⟩ := h
  exact ⟨vs, ownz_fr h1 f fun k e => hs k (h2 k e), h2, h3, fun i u x hu hx => (h4 i u x hu hx).keep f hs⟩
theorem NdV.keep {c : List Value} {n : Nd} (h : NdV W K c n) (f : Fr S W W') (hs : ∀ k, K k → ¬ S k) : NdV W' K c n := by
  obtain ⟨sv, wv, rv, pv, kv, h0, h1, h2, h3, h4, h5⟩ := h
  exact ⟨sv, wv, rv, pv, kv, h0, h1.keep f hs, h2.keep f hs, h3.keep f hs, h4.keep f hs, h5.keep f hs⟩
theorem Nds.keep {ns : List Nd} (h : Nds W K v ns) (f : Fr S W W') (hs : ∀ k, K k → ¬ S k) (hv : ∀ k, v.ownBlock = some k → ¬ S k) : Nds W' K v ns := by
  obtain ⟨cs, h1, h2, h3⟩ := h
  exact ⟨cs, ownz_fr h1 f hv, h2, fun i c n hc hn => (h3 i c n hc hn).keep f hs⟩
theorem Strs.mono {l : List Bs} (h : Strs W K v l) (hk : ∀ k, K k → K' k) : Strs W K' v l := ⟨h.1, h.2.mono hk⟩
theorem Ints.mono {l : List Int} (h : Ints W K v l) (hk : ∀ k, K k → K' k) : Ints W K' v l := ⟨h.1, h.2.mono hk⟩
theorem Rds.mono {l : List Rd} (h : Rds W K v l) (hk : ∀ k, K k → K' k) : Rds W K' v l := ⟨h.1, h.2.mono hk⟩
theorem Pats.mono {l : List (List Bs)} (h : Pats W K v l) (hk : ∀ k, K k → K' k) : Pats W K' v l := by
  obtain ⟨vs, h1, h2, h3, h4⟩ := h
  exact ⟨vs, h1, h2.mono hk, h3, fun i u x hu hx => (h4 i u x hu hx).mono hk⟩
theorem NdV.mono {c : List Value} {n : Nd} (h : NdV W K c n) (hk : ∀ k, K k → K' k) : NdV W K' c n := by
  obtain ⟨sv, wv, rv, pv, kv, h0, h1, h2, h3, h4, h5⟩ := h
  exact ⟨sv, wv, rv, pv, kv, h0, h1.mono hk, h2.mono hk, h3.mono hk, h4.mono hk, h5.mono hk⟩
theorem Strs.nil (W : World) (K : Nat → Prop) : Strs W K (.slice none 0 0) [] := ⟨World.ownsRow_nil W 0 9 1, InK.nil K⟩
theorem Ints.nil (W : World) (K : Nat → Prop) : Ints W K (.slice none 0 0) [] := ⟨World.ownsRow_nil W 0 3 1, InK.nil K⟩
theorem Rds.nil (W : World) (K : Nat → Prop) : Rds W K (.slice none 0 0) [] := ⟨World.ownsRow_nil W 0 43 3, InK.nil K⟩
theorem Pats.nil (W : World) (K : Nat → Prop) : Pats W K (.slice none 0 0) [] := ⟨[], World.ownsRow_nil W 0 28 1, InK.nil K, rfl, fun i u x h => by simp at h⟩
theorem Nds.nil (W : World) (K : Nat → Prop) : Nds W K (.slice none 0 0) [] := ⟨[], World.ownsRow_nil W 0 32 8, rfl, fun i u x h => by simp at h⟩
end
/-- how many tokens have been read. -/
def pos (all : List Tk) (s : S) : Nat := all.length - s.ts.length
/-- the parser's cells. -/
def pmC (all : List Tk) (g cap : Nat) (nv : Value) (s : S) : Array Value :=
  #[.slice (some ⟨g, pos all s * 3, none⟩) s.ts.length (cap - pos all s), nv, .int .i64 s.opn, .int .i64 s.at_, .int .i64 s.err]
/-- all but the parser's own cells. -/
structure PX (W : World) (n : Nat) (K : Nat → Prop) (g cap : Nat) (all : List Tk) (nv : Value) (s : S) : Prop where
  toks : Row W 0 (.slice (some ⟨g, 0, none⟩) all.length cap) all
  nds : Nds W K nv s.ns
  suf : s.ts <:+ all
  inv : Inv n s
  capl : all.length ≤ cap ∧ cap ≤ maxLen
  small : pot s ≤ 100000 ∧ n ≤ 4096
  kb : ∀ k, K k → k < W.heap.size
/-- the parser at p. -/
structure PM (W : World) (n : Nat) (K : Nat → Prop) (p g cap : Nat) (all : List Tk) (nv : Value) (s : S) : Prop where
  cell : W.heap[p]? = some (.cells (pmC all g cap nv s) 48 (0, 0))
  x : PX W n K g cap all nv s
section
variable {W W' : World} {S' : Nat → Prop} {n p g cap : Nat} {K : Nat → Prop} {all : List Tk} {nv : Value} {s : S}
theorem PX.fr (h : PX W n K g cap all nv s) (f : Fr S' W W') (ht : Tp W S') (hv : ∀ k, nv.ownBlock = some k → ¬ S' k) : PX W' n K g cap all nv s :=
  ⟨Tp.own h.toks f ht ⟨by decide, by decide⟩, h.nds.fr f ht hv, h.suf, h.inv, h.capl, h.small, fun k e => Nat.lt_of_lt_of_le (h.kb k e) f.size⟩
theorem PM.fr (h : PM W n K p g cap all nv s) (f : Fr (fun _ => False) W W') : PM W' n K p g cap all nv s :=
  ⟨(f.block p (heap_lt h.cell) id).trans h.cell, h.x.fr f (Tp.none W) fun _ _ => id⟩
theorem PM.tp (h : PM W n K p g cap all nv s) : Tp W (· = p) := fun k hk _ => by
  subst hk
  exact ⟨_, _, _, h.cell, .inl rfl⟩
theorem PM.tpn (h : PM W n K p g cap all nv s) : Tp W (fun k => k = p ∨ nv.ownBlock = some k) := fun k hk _ => by
  rcases hk with rfl | hk
  · exact ⟨_, _, _, h.cell, .inl rfl⟩
  · obtain ⟨cs, h1, _⟩ := h.x.nds
    obtain ⟨_, _, cur, fz, hc⟩ := ownz_type h1 hk
    exact ⟨_, _, _, hc, .inr rfl⟩
theorem PM.nvp (h : PM W n K p g cap all nv s) : ∀ k, nv.ownBlock = some k → ¬ k = p := fun k hk e => by
  subst e
  obtain ⟨cs, h1, _⟩ := h.x.nds
  obtain ⟨_, _, cur, fz, hc⟩ := ownz_type h1 hk
  rw [h.cell] at hc
  cases hc
theorem PM.cells (h : PM W n K p g cap all nv s) : W.cell? ⟨p, 0, none⟩ = some (.slice (some ⟨g, pos all s * 3, none⟩) s.ts.length (cap - pos all s)) ∧ W.cell? ⟨p, 1, none⟩ = some nv ∧ W.cell? ⟨p, 2, none⟩ = some (.int .i64 s.opn) ∧
    W.cell? ⟨p, 3, none⟩ = some (.int .i64 s.at_) ∧ W.cell? ⟨p, 4, none⟩ = some (.int .i64 s.err) ∧ ∀ j, W.frozen? ⟨p, j, none⟩ = false :=
  ⟨by rw [Lib.cell_of_heap h.cell]; rfl, by rw [Lib.cell_of_heap h.cell]; rfl, by rw [Lib.cell_of_heap h.cell]; rfl, by rw [Lib.cell_of_heap h.cell]; rfl, by rw [Lib.cell_of_heap h.cell]; rfl, fun j => Lib.frozen_of_heap h.cell j⟩
/-- a row of one's own: no node's, no one else's. -/
def Mine (K : Nat → Prop) (v : Value) : Prop := ∀ k, v.ownBlock = some k → ¬ K k
theorem Mine.nil (K : Nat → Prop) : Mine K (.slice none 0 0) := fun k e => by cases e
/-- a row's own block. -/
def own1 (v : Value) : Nat → Prop := fun k => v.ownBlock = some k
/-- the same, where a local row changes. -/
theorem PM.app {B z m : Nat} {e : TypeId} {v : Value} {xs : List Value} (h : PM W n K p g cap all nv s) (f : Fr (own1 v) W W') (ho : W.ownsRow B e z v m xs) (hm : Mine K v) (he : e ≠ 48 ∧ e ≠ 32 ∧ e ≠ 40) : PM W' n K p g cap all nv s := by
  have hT : ∀ k, own1 v k → ∃ cur fz, W.heap[k]? = some (.cells cur e fz) := fun k hk => (ownz_type ho hk).2.2
  have hp : ¬ own1 v p := fun hk => by
    obtain ⟨cur, fz, hc⟩ := hT p hk
    rw [h.cell] at hc; cases hc; exact he.1 rfl
  have hnv : ∀ k, nv.ownBlock = some k → ¬ own1 v k := fun k hk hv => by
    obtain ⟨cs, h1, _⟩ := h.x.nds
    obtain ⟨_, _, cur, fz, hc⟩ := ownz_type h1 hk
    obtain ⟨cur', fz', hc'⟩ := hT k hv
    rw [hc] at hc'; cases hc'; exact he.2.1 rfl
  refine ⟨(f.block p (heap_lt h.cell) hp).trans h.cell, ⟨ownz_fr h.x.toks f (fun k hk hv => ?_), h.x.nds.keep f (fun k hk hv => hm k hv hk) hnv, h.x.suf, h.x.inv, h.x.capl, h.x.small, fun k e => Nat.lt_of_lt_of_le (h.x.kb k e) f.size⟩⟩
  obtain ⟨_, _, cur, fz, hc⟩ := ownz_type h.x.toks hk
  obtain ⟨cur', fz', hc'⟩ := hT k hv
  rw [hc] at hc'; cases hc'; exact he.2.2 rfl
/-- what a call that lists nodes may change. -/
structure Go (p : Nat) (nv nv' : Value) (K K' : Nat → Prop) (W W' : World) : Prop where
  fr : Fr (fun k => k = p ∨ nv.ownBlock = some k) W W'
  blk : ∀ k, nv'.ownBlock = some k → nv.ownBlock = some k ∨ W.heap.size ≤ k
  kk : ∀ k, K' k → K k ∨ W.heap.size ≤ k
theorem Go.of (f : Fr (· = p) W W') : Go p nv nv K K W W' := ⟨f.mono fun k _ h => .inl h, fun k h => .inl h, fun k h => .inl h⟩
theorem Go.of0 (f : Fr (fun _ => False) W W') : Go p nv nv K K W W' := ⟨f.mono fun k _ h => h.elim, fun k h => .inl h, fun k h => .inl h⟩
theorem Go.refl (p : Nat) (nv : Value) (K : Nat → Prop) (W : World) : Go p nv nv K K W W := Go.of (Fr.refl _ _)
theorem Go.trans {W'' : World} {nv' nv'' : Value} {K' K'' : Nat → Prop} (h : Go p nv nv' K K' W W') (k : Go p nv' nv'' K' K'' W' W'') : Go p nv nv'' K K'' W W'' :=
  ⟨⟨k.fr.os.trans h.fr.os, k.fr.tape.trans h.fr.tape, k.fr.output.trans h.fr.output, Nat.le_trans h.fr.size k.fr.size, fun i hi hn => by
      refine (k.fr.block i (Nat.lt_of_lt_of_le hi h.fr.size) (fun e => ?_)).trans (h.fr.block i hi hn)
      rcases e with e | e
      · exact hn (.inl e)
      · rcases h.blk i e with e | e
        · exact hn (.inr e)
        · omega⟩, fun i e => by
      rcases k.blk i e with e | e
      · exact h.blk i e
      · exact .inr (Nat.le_trans h.fr.size e), fun i e => by
      rcases k.kk i e with e | e
      · exact h.kk i e
      · exact .inr (Nat.le_trans h.fr.size e)⟩
/-- a block that is no one's. -/
theorem Go.ne {nv' : Value} {K' : Nat → Prop} {T : Nat} (h : Go p nv nv' K K' W W') (hT : T < W.heap.size) (hn : ¬ nv.ownBlock = some T) : ¬ nv'.ownBlock = some T := fun e => by
  rcases h.blk T e with e | e
  · exact hn e
  · omega
theorem Go.nk {nv' : Value} {K' : Nat → Prop} {T : Nat} (h : Go p nv nv' K K' W W') (hT : T < W.heap.size) (hn : ¬ K T) : ¬ K' T := fun e => by
  rcases h.kk T e with e | e
  · exact hn e
  · omega
theorem Go.heap {nv' : Value} {K' : Nat → Prop} {T : Nat} {o : Obj} (h : Go p nv nv' K K' W W') (hc : W.heap[T]? = some o) (hp : ¬ T = p) (hn : ¬ nv.ownBlock = some T) : W'.heap[T]? = some o :=
  (h.fr.block T (heap_lt hc) fun e => e.elim hp hn).trans hc
/-- the same of a node that is listed. -/
structure GoA (p : Nat) (nv nv' : Value) (W W' : World) : Prop where
  fr : Fr (fun k => k = p ∨ nv.ownBlock = some k) W W'
  blk : ∀ k, nv'.ownBlock = some k → nv.ownBlock = some k ∨ W.heap.size ≤ k
theorem Go.add {W'' : World} {nv' nv'' : Value} {K' K'' : Nat → Prop} (h : Go p nv nv' K K' W W') (k : GoA p nv' nv'' W' W'') (hk : ∀ k, K'' k → K k ∨ W.heap.size ≤ k) : Go p nv nv'' K K'' W W'' := by
  have h2 : Go p nv' nv'' K' (fun _ => False) W' W'' := ⟨k.fr, k.blk, fun _ e => e.elim⟩
  have h3 := h.trans h2
  exact ⟨h3.fr, h3.blk, hk⟩
theorem Go.app {nv' v : Value} {K' : Nat → Prop} {W'' : World} (h : Go p nv nv' K K' W W') (f : Fr (own1 v) W' W'') (hv : ∀ k, v.ownBlock = some k → W.heap.size ≤ k) : Go p nv nv' K K' W W'' :=
  ⟨⟨f.os.trans h.fr.os, f.tape.trans h.fr.tape, f.output.trans h.fr.output, Nat.le_trans h.fr.size f.size, fun i hi hn => (f.block i (Nat.lt_of_lt_of_le hi h.fr.size) (fun e => by have := hv i e; omega)).trans (h.fr.block i hi hn)⟩, h.blk, h.kk⟩
theorem Go.al {nv' : Value} {K' : Nat → Prop} (h : Go p nv nv' K K' W W') (O : Obj) : Go p nv nv' K K' W (W'.alloc O) := h.trans (Go.of0 ((Fr.refl _ _).alloc O))
theorem Go.call {nv' : Value} {K' : Nat → Prop} {W'' : World} (h : Go p nv nv' K K' W W') (f : Fr (· = p) W' W'') : Go p nv nv' K K' W W'' := h.trans (Go.of f)
theorem Go.call0 {nv' : Value} {K' : Nat → Prop} {W'' : World} (h : Go p nv nv' K K' W W') (f : Fr (fun _ => False) W' W'') : Go p nv nv' K K' W W'' := h.trans (Go.of0 f)
theorem PM.strs {nv' v : Value} {K1 K' : Nat → Prop} {l : List Bs} (h : PM W n K p g cap all nv s) (k : Go p nv nv' K K' W W') (hv : Strs W K1 v l) : Strs W' K1 v l := hv.fr k.fr h.tpn
theorem PM.ints {nv' v : Value} {K1 K' : Nat → Prop} {l : List Int} (h : PM W n K p g cap all nv s) (k : Go p nv nv' K K' W W') (hv : Ints W K1 v l) : Ints W' K1 v l := hv.fr k.fr h.tpn
theorem PM.rds {nv' v : Value} {K1 K' : Nat → Prop} {l : List Rd} (h : PM W n K p g cap all nv s) (k : Go p nv nv' K K' W W') (hv : Rds W K1 v l) : Rds W' K1 v l := hv.fr k.fr h.tpn
theorem PM.pats {nv' v : Value} {K1 K' : Nat → Prop} {l : List (List Bs)} (h : PM W n K p g cap all nv s) (k : Go p nv nv' K K' W W') (hv : Pats W K1 v l) : Pats W' K1 v l := hv.fr k.fr h.tpn
theorem Mine.go {nv' v : Value} {K' : Nat → Prop} {B z m : Nat} {e : TypeId} {xs : List Value} (h : Mine K v) (k : Go p nv nv' K K' W W') (ho : W.ownsRow B e z v m xs) : Mine K' v := fun i hi => k.nk (ownz_type ho hi).2.1 (h i hi)
theorem PX.facts (h : PX W n K g cap all nv s) : 0 < s.ts.length ∧ s.ts.length ≤ all.length ∧ all.length ≤ cap ∧ cap ≤ maxLen ∧ s.ts.length ≤ 5000 ∧ s.ns.length ≤ 100000 ∧ pos all s + s.ts.length = all.length := by
  have h1 := h.inv.good.ne
  have h2 := h.suf.length_le
  have h3 := h.capl
  have h4 := h.small.1
  unfold pot at h4
  unfold pos
  refine ⟨h1, h2, h3.1, h3.2, by omega, by omega, by omega⟩
/-- the cells of a token that has not been read. -/
theorem PX.tok (h : PX W n K g cap all nv s) (j : Nat) (t : Tk) (ht : s.ts[j]? = some t) :
    W.cell? ⟨g, pos all s * 3 + j * 3, none⟩ = some (.int .i64 t.kind) ∧ W.cell? ⟨g, pos all s * 3 + j * 3 + 1, none⟩ = some (.string (st t.text)) ∧ W.cell? ⟨g, pos all s * 3 + j * 3 + 2, none⟩ = some (.int .i64 t.at_) := by
  obtain ⟨pre, hp⟩ := h.suf
  have hl : pos all s = pre.length := by unfold pos; rw [← hp, List.length_append]; omega
  have hj : all[pos all s + j]? = some t := by rw [hl, ← hp, List.getElem?_append_right (by omega)]; rw [show pre.length + j - pre.length = j by omega]; exact ht
  have hlt := (List.getElem?_eq_some_iff.1 hj).1
  have hrow : W.ownsRow 0 40 3 (.slice (some ⟨g, 0, none⟩) all.length cap) all.length (tkC all) := h.toks
  have key : ∀ (ts : List Tk) (k : Nat) (t : Tk), ts[k]? = some t → (tkC ts)[k * 3]? = some (.int .i64 t.kind) ∧ (tkC ts)[k * 3 + 1]? = some (.string (st t.text)) ∧ (tkC ts)[k * 3 + 2]? = some (.int .i64 t.at_) := by
    intro ts
    induction ts with
    | nil => intro k t h; simp at h
    | cons a r ih =>
      intro k t hk
      have e : tkC (a :: r) = tkC1 a ++ tkC r := by simp [tkC]
      rw [e]
      cases k with
      | zero => simp at hk; subst hk; exact ⟨rfl, rfl, rfl⟩
      | succ k =>
        have := ih k t (by simpa using hk)
        have h3 : (tkC1 a).length = 3 := rfl
        rw [List.getElem?_append_right (by omega), List.getElem?_append_right (by omega), List.getElem?_append_right (by omega), h3, show (k + 1) * 3 - 3 = k * 3 by omega, show (k + 1) * 3 + 1 - 3 = k * 3 + 1 by omega, show (k + 1) * 3 + 2 - 3 = k * 3 + 2 by omega]
        exact this
  obtain ⟨k0, k1, k2⟩ := key all _ _ hj
  have e : pos all s * 3 + j * 3 = (pos all s + j) * 3 := by omega
  rw [e]
  refine ⟨?_, ?_, ?_⟩
  · rw [hrow.cellAt _ (by omega)]; exact k0
  · rw [hrow.cellAt _ (by omega)]; exact k1
  · rw [hrow.cellAt _ (by omega)]; exact k2
theorem hd_zero (h : Inv n s) : s.ts[0]? = some s.hd := by
  rw [h.hdc']
  rfl
end
end Go.Proofs.Ytoahgblgchmclaa
