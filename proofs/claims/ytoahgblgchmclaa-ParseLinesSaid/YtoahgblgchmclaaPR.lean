/- Rows of nodes' numbers while nodes are listed. -/
import Derived.Test.YtoahgblgchmclaaPQ
namespace Go.Proofs.Ytoahgblgchmclaa
open Go.RowKit
set_option linter.unusedVariables false
set_option linter.unusedSimpArgs false
section
variable {W w w' : World} {n p g cap : Nat} {K Kt K2 : Nat → Prop} {all : List Tk} {nv nvt nv2 kv x : Value} {s t u : S} {ks : List Int}
/-- a row of one's own, and what has happened since. -/
structure KR (W : World) (n : Nat) (K : Nat → Prop) (p g cap : Nat) (all : List Tk) (nv : Value) (w : World) (t : S) (nvt : Value) (Kt : Nat → Prop) (kv : Value) (ks : List Int) : Prop where
  pm : PM w n Kt p g cap all nvt t
  go : Go p nv nvt K Kt W w
  row : Ints w (own1 kv) kv ks
  fr : Fresh W kv
  mine : Mine Kt kv
theorem KR.start (h : PM W n K p g cap all nv s) : KR W n K p g cap all nv W s nv K (.slice none 0 0) [] := ⟨h, Go.refl _ _ _ _, Ints.nil _ _, Fresh.nil _, Mine.nil _⟩
theorem KR.call0 (h : KR W n K p g cap all nv w t nvt Kt kv ks) (f : Fr (fun _ => False) w w') : KR W n K p g cap all nv w' t nvt Kt kv ks :=
  ⟨h.pm.fr f, h.go.call0 f, h.row.fr f (Tp.none _), h.fr, h.mine⟩
theorem KR.al (h : KR W n K p g cap all nv w t nvt Kt kv ks) (O : Obj) : KR W n K p g cap all nv (w.alloc O) t nvt Kt kv ks := h.call0 ((Fr.refl _ _).alloc O)
theorem KR.call (h : KR W n K p g cap all nv w t nvt Kt kv ks) (hp : PM w' n Kt p g cap all nvt u) (f : Fr (· = p) w w') : KR W n K p g cap all nv w' u nvt Kt kv ks :=
  ⟨hp, h.go.call f, h.row.fr f h.pm.tp, h.fr, h.mine⟩
theorem KR.node (h : KR W n K p g cap all nv w t nvt Kt kv ks) (hp : PM w' n K2 p g cap all nv2 u) (k : Go p nvt nv2 Kt K2 w w') : KR W n K p g cap all nv w' u nv2 K2 kv ks :=
  ⟨hp, h.go.trans k, h.pm.ints k h.row, h.fr, h.mine.go k h.row.1⟩
theorem mine_more {g' n' cp : Nat} (hm : Mine Kt kv) (hp : PM w n Kt p g cap all nvt t) (hat : kv.ownBlock = some g' ∨ g' = w.heap.size + 1) : Mine Kt (.slice (some ⟨g', 0, none⟩) n' cp) := fun k e hk => by
  have e' : some g' = some k := e
  cases e'
  rcases hat with e | e
  · exact hm _ e hk
  · have := hp.x.kb _ hk; omega
theorem KR.app {g' n' cp : Nat} {l2 : List Int} (h : KR W n K p g cap all nv w t nvt Kt kv ks) (f : Fr (own1 kv) w w') (hr : Ints w' (own1 (.slice (some ⟨g', 0, none⟩) n' cp)) (.slice (some ⟨g', 0, none⟩) n' cp) l2) (hat : kv.ownBlock = some g' ∨ g' = w.heap.size + 1) :
    KR W n K p g cap all nv w' t nvt Kt (.slice (some ⟨g', 0, none⟩) n' cp) l2 :=
  ⟨h.pm.app f h.row.1 h.mine ⟨by decide, by decide, by decide⟩, h.go.app f h.fr, hr, h.fr.more h.go.fr.size hat, mine_more h.mine h.pm hat⟩
/-- a row just made. -/
theorem ints_new (w : World) (is : List Int) (hl : is.length ≤ 1000) : Ints (w.alloc (.cells (is.map (Value.int .i64)).toArray 3)) (own1 (.slice (some ⟨w.heap.size, 0, none⟩) is.length is.length)) (.slice (some ⟨w.heap.size, 0, none⟩) is.length is.length) is :=
  ⟨⟨by simp, .inr ⟨w.heap.size, is.length, (is.map (Value.int .i64)).toArray, rfl, Nat.zero_le _, heap_alloc_new w _, Nat.le_refl _, by unfold maxLen; omega, by simp, by simp; exact List.take_of_length_le (by simp)⟩⟩, fun k e => e⟩
theorem KR.lit {is : List Int} (hp : PM w n Kt p g cap all nvt t) (k : Go p nv nvt K Kt W w) (hl : is.length ≤ 1000) : KR W n K p g cap all nv (w.alloc (.cells (is.map (Value.int .i64)).toArray 3)) t nvt Kt (.slice (some ⟨w.heap.size, 0, none⟩) is.length is.length) is := by
  refine ⟨hp.alc, k.al _, ints_new w is hl, fun k' e => ?_, fun k' e hk => ?_⟩
  · have e' : some w.heap.size = some k' := e
    cases e'
    exact k.fr.size
  · have e' : some w.heap.size = some k' := e
    cases e'
    have := hp.x.kb _ hk
    omega
theorem KR.lit1 {i : Int} (hp : PM w n Kt p g cap all nvt t) (k : Go p nv nvt K Kt W w) : KR W n K p g cap all nv (w.alloc (.cells #[.int .i64 i] 3)) t nvt Kt (.slice (some ⟨w.heap.size, 0, none⟩) 1 1) [i] := KR.lit (is := [i]) hp k (by simp)
theorem KR.lit2 {i j : Int} (hp : PM w n Kt p g cap all nvt t) (k : Go p nv nvt K Kt W w) : KR W n K p g cap all nv (w.alloc (.cells #[.int .i64 i, .int .i64 j] 3)) t nvt Kt (.slice (some ⟨w.heap.size, 0, none⟩) 2 2) [i, j] := KR.lit (is := [i, j]) hp k (by simp)
/-- an answer that is a row. -/
def RowPost (W : World) (n : Nat) (K : Nat → Prop) (p g cap : Nat) (all : List Tk) (nv : Value) (r : List Int × S) (e : Ending) (w' : World) : Prop :=
  ∃ v nv' K', e = .returned v ∧ KR W n K p g cap all nv w' r.2 nv' K' v r.1
/-- what the lists in a compound do. -/
def LCon (L : S → Int × S) (n p g cap : Nat) (all : List Tk) (o : Nat) (bd : Int) : Prop := ∀ (W : World) (K : Nat → Prop) (nv : Value) (s : S), PM W n K p g cap all nv s → o ≤ s.opn → s.opn ≤ 25 → pot s ≤ bd →
  Calls Try.prog 24 #[.pointer (some ⟨p, 0, none⟩)] W (NodePost W n K p g cap all nv (L s))
end
end Go.Proofs.Ytoahgblgchmclaa
