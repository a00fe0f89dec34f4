/- A tree that is changed while blocks of a call's own stand (L): the program's. -/
import Derived.Test.YtflncolmehmaaaaWE0
namespace Go.Proofs.Ytflncolmehmaaaa
open Go.RowKit Ino Go.Maps
open Pa (Blk strV)
set_option linter.unusedVariables false
set_option linter.unusedSimpArgs false
variable {w W W' : World} {A : Nat} {own L L' : Nat → Prop} {t t' : T}

/-- behind some calls since w: the tree t in blocks that are none of L's. -/
def Pk (L : Nat → Prop) (w : World) (own : Nat → Prop) (A : Nat) (t : T) (W : World) : Prop :=
  ∃ own', PTo W A own' t ∧ (∀ g, own' g → (own g ∨ w.heap.size ≤ g) ∧ ¬ L g ∧ g < W.heap.size) ∧ Fr own w W ∧ ∀ g, L g → w.heap.size ≤ g ∧ g < W.heap.size
theorem PTo.wider {own' : Nat → Prop} (h : PTo w A own t) (ho : ∀ g, own g → own' g) : PTo w A own' t := by
  obtain ⟨nb, mb, h1, h2⟩ := h
  exact ⟨nb, mb, h1, fun g hg => ho g (h2 g hg)⟩
theorem PTo.kept (h : PTo w A own t) : PTo w A (fun g => own g ∧ g < w.heap.size) t := by
  obtain ⟨nb, mb, h1, h2⟩ := h
  exact ⟨nb, mb, h1, fun g hg => ⟨h2 g hg, h1.tlt hg⟩⟩
theorem Pk.start (h : PTo w A own t) (b : Below w.heap.size w W) (hL : ∀ g, L g → w.heap.size ≤ g ∧ g < W.heap.size) : Pk L w own A t W :=
  ⟨_, h.kept.below b, fun g hg => ⟨.inl hg.1, fun k => by have := hL g k; have := hg.2; omega, by have := hg.2; have := b.size; omega⟩, Fr.of_below b, hL⟩
theorem Pk.up (h : Pk L w own A t W) (b : Below W.heap.size W W') (hL : ∀ g, L' g → L g ∨ (W.heap.size ≤ g ∧ g < W'.heap.size)) : Pk L' w own A t W' := by
  obtain ⟨own', h1, h2, h3, h4⟩ := h
  have hb := b.size
  have hs := h3.size
  refine ⟨own', h1.below b, fun g hg => ⟨(h2 g hg).1, fun k => ?_, by have := h2 g hg; omega⟩, h3.trans (Fr.of_below b), fun g hg => ?_⟩
  · rcases hL g k with k | k
    · exact (h2 g hg).2.1 k
    · have := h2 g hg; omega
  · rcases hL g hg with k | k
    · have := h4 g k; omega
    · omega
theorem Pk.done (h : Pk L w own A t W) : Pt w A own t W := by
  obtain ⟨own', h1, h2, h3, h4⟩ := h
  refine ⟨fun g => own g ∨ own' g, h1.wider fun g => .inr, fun g => .inl, fun g hg => ?_, h3⟩
  rcases hg with hg | hg
  · exact .inl hg
  · exact (h2 g hg).1
theorem Pk.blk {G : Nat} {T : TypeId} {cs : Array Value} (k : Blk W G T cs) (hf : Fr (fun g => ¬ L g) W W') (hG : L G) : Blk W' G T cs := (hf.block G k.lt fun n => n hG).trans k
/-- a call that changes the tree. -/
theorem Pk.call {P : Program} {f : FuncId} {args : Array Value} {v : Value} (h : Pk L w own A t W) (H : ∀ own', PTo W A own' t → Calls P f args W fun e w' => e = .returned v ∧ Pt W A own' t' w') :
    Calls P f args W fun e w' => e = .returned v ∧ Pk L w own A t' w' ∧ Fr (fun g => ¬ L g) W w' := by
  obtain ⟨own', h1, h2, h3, h4⟩ := h
  refine (H own' h1).mono fun e w' ⟨he, own2, k1, k2, k3, k4⟩ => ⟨he, ⟨fun g => own2 g ∧ g < w'.heap.size, k1.kept, fun g hg => ⟨?_, ?_, hg.2⟩, ?_, fun g hg => ⟨(h4 g hg).1, by have := (h4 g hg).2; have := k4.size; omega⟩⟩, ?_⟩
  · rcases k3 g hg.1 with k | k
    · exact (h2 g k).1
    · have := h3.size; exact .inr (by omega)
  · intro hLg
    rcases k3 g hg.1 with k | k
    · exact (h2 g k).2.1 hLg
    · have := (h4 g hLg).2; omega
  · refine ⟨k4.os.trans h3.os, k4.tape.trans h3.tape, k4.output.trans h3.output, Nat.le_trans h3.size k4.size, fun i hi hn => (k4.block i (by have := h3.size; omega) fun ho => ?_).trans (h3.block i hi hn)⟩
    rcases (h2 i ho).1 with k | k
    · exact hn k
    · omega
  · exact k4.mono fun g _ hg => (h2 g hg).2.1
/-- a call that changes nothing. -/
theorem Pk.pto (h : Pk L w own A t W) : ∃ own', PTo W A own' t := by
  obtain ⟨own', h1, _⟩ := h
  exact ⟨own', h1⟩
theorem Pk.size (h : Pk L w own A t W) : w.heap.size ≤ W.heap.size := by
  obtain ⟨_, _, _, h3, _⟩ := h
  exact h3.size
end Go.Proofs.Ytflncolmehmaaaa
