import Derived.Test.YtlpececggkdhmaaGreatM1
import Derived.Test.YtlpececggkdhmaaGreatM14
import Derived.Test.YtlpececggkdhmaaGreatM15
set_option linter.unusedVariables false
set_option linter.unusedSimpArgs false
namespace Go.Proofs.YtlpececggkdhmaaGreat
section
open Go.RowKit Ino Go.Maps
def PS (w0 w : World) (A : Nat) (t : T) : Prop := ∃ own, PTo w A own t ∧ (∀ g, own g → w0.heap.size ≤ g) ∧ Below w0.heap.size w0 w
variable {w0 w : World} {A : Nat} {t u : T}
theorem PS.below (h : PS w0 w A t) : Below w0.heap.size w0 w := by
 obtain ⟨_, _, _, h⟩ := h
 exact h
theorem PS.next {w' : World} {own : Nat → Prop} (hB : ∀ g, own g → w0.heap.size ≤ g) (hb : Below w0.heap.size w0 w) (h : Pt w A own u w') : PS w0 w' A u := by
 obtain ⟨own', hP, h1, h2, h3⟩ := h
 have hsz := hb.size
 refine ⟨own', hP, fun g hg => ?_, hb.trans ⟨h3.os, h3.tape, h3.output, h3.size, fun k hk => h3.block k (by omega) fun ho => by have := hB k ho; omega⟩⟩
 rcases h2 g hg with h | h
 ·exact hB g h
 ·omega
theorem PS.read {w' : World} (h : PS w0 w A t) (hb : Below w.heap.size w w') : PS w0 w' A t := by
 obtain ⟨own, hP, hB, hb0⟩ := h
 exact ⟨own, hP.below hb, hB, hb0.trans (hb.mono hb0.size)⟩
theorem PS.alloc (h : PS w0 w A t) (o : Obj) : PS w0 (w.alloc o) A t := h.read ((Below.refl _ w).alloc (Nat.le_refl _) o)
theorem PS.drew (h : PS w0 w A t) : PS w0 w.drew A t := h.read (Below.refl _ w).drew
theorem PS.drewN (h : PS w0 w A t) (n : Nat) : PS w0 (w.drewN n) A t := h.read ⟨rfl, rfl, rfl, Nat.le_refl _, fun _ _ => rfl⟩
theorem ps_new (hb : Below w0.heap.size w0 w) (m o g : Int) (hm : wfI m) (hk : rOk m o g = true) :
 Calls Tryz.prog 9 #[.int .i64 m, .int .i64 o, .int .i64 g] w fun e w' => ∃ A, e = .returned (.pointer (some ⟨A, 0, none⟩)) ∧ PS w0 w' A (newP m o g) := by
 refine (pnew_any m o g hm hk w).mono fun e w' ⟨A, he, hP, hB⟩ => ⟨A, he, _, hP, fun g hg => Nat.le_trans hb.size hg, hb.trans (hB.mono hb.size)⟩
theorem ps_look (h : PS w0 w A t) (hs : Sd t) (i : Int) (s : ByteArray) (hsz : s.size ≤ maxLen) :
 Calls Tryz.prog 18 #[.pointer (some ⟨A, 0, none⟩), .int .i64 i, .string s] w fun e w' => e = .returned (lookV (lookP t i s.data.toList)) ∧ w = w' := by
 obtain ⟨own, hP, hB, hb2⟩ := h
 exact plook_any i s w hP hs hsz
theorem ps_stat (h : PS w0 w A t) (hs : Sd t) (i : Int) :
 Calls Tryz.prog 21 #[.pointer (some ⟨A, 0, none⟩), .int .i64 i] w fun e w' => e = .returned (infV (statP t i)) ∧ PS w0 w' A t ∧ Below w.heap.size w w' := by
 have H := h
 obtain ⟨own, hP, hB, hb2⟩ := h
 exact (pstat_any i w hP hs).mono fun e w' ⟨he, hp⟩ => ⟨he, H.read hp, hp⟩
def infA (a : Inf) : Value := .agg #[.int .i64 a.ino, .int .i64 a.kind, .int .i64 a.mode, .int .i64 a.owner, .int .i64 a.group, .int .i64 a.links, .int .i64 a.size, .int .i64 a.tty]
end
end Go.Proofs.YtlpececggkdhmaaGreat
namespace Go.Proofs.YtlpececggkdhmaaGreat.Ino
theorem run_holds : ∀ (l : List Nat) (t : T) (i : Nat), (run t l i).holds ≤ (t i).holds
 | [], _, _ => Nat.le_refl _
 | a :: l, t, i => by
  have h := run_holds l (del t a) i
  by_cases e : i = a
  ·rw [e, del_self] at h
   rw [e]
   exact Nat.le_trans h (Nat.zero_le _)
  ·rw [del_holds t e] at h; exact h
theorem gone_holds (t : T) (i : Nat) : (goneP t i).holds ≤ (t i).holds := by
 obtain ⟨l, _, h2, _⟩ := goneP_gone t
 rw [← h2]
 exact run_holds l t i
def twoT (m o g : Int) (n : Nod) : T := upd (newP m o g) 2 n
end Go.Proofs.YtlpececggkdhmaaGreat.Ino
namespace Go.Proofs.YtlpececggkdhmaaGreat
section
open Go.RowKit Ino Go.Maps
def sN : Nod := madeN 1 448 5 6 0 2
def S1 : T := twoT 493 0 0 sN
def S2 : T := add S1 1 [97] 2
def S3 : T := upd S2 2 { S2 2 with holds := 0 }
noncomputable def S4 : T := goneP (rem S3 1 [97] 2)
theorem stat_no {t : T} {i : Int} (h : isI t i = false) : statP t i = (noInf, false) := by unfold statP; rw [h, if_neg Bool.false_ne_true]
end
end Go.Proofs.YtlpececggkdhmaaGreat
