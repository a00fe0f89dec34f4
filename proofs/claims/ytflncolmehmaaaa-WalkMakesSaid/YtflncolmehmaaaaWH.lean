/- Contracts of package walk: Find. -/
import Derived.Test.YtflncolmehmaaaaWE
import Derived.Test.YtflncolmehmaaaaWG
namespace Go.Proofs.Ytflncolmehmaaaa
open Go.RowKit Ino Go.Maps
open Pa (Blk strV)
set_option linter.unusedVariables false
set_option linter.unusedSimpArgs false
variable {own : Nat → Prop} {t : T}

theorem toldI_ino (t : T) (cwd u g : Int) (l : Bs) (h0 : (findP t cwd u g l).2 ≠ 0 → (findP t cwd u g l).1 = 0) : (toldI t (findP t cwd u g l)).1.ino = ((findP t cwd u g l).1 : Int) ∧ (toldI t (findP t cwd u g l)).2 = (findP t cwd u g l).2 := by
  unfold toldI
  by_cases h : (findP t cwd u g l).2 = 0
  · rw [if_pos h]; exact ⟨rfl, h.symm⟩
  · rw [if_neg h, h0 h]; exact ⟨rfl, rfl⟩
theorem findP_none (t : T) (cwd u g : Int) (l : Bs) (h : (findP t cwd u g l).2 ≠ 0) : (findP t cwd u g l).1 = 0 := by
  unfold findP at h ⊢
  split at h
  · rename_i h1
    rw [if_pos h1]
    split at h
    · rename_i h2
      rw [if_pos h2]
      split at h
      · rename_i h3; rw [if_pos h3]
      · exact absurd rfl h
    · rename_i h2; rw [if_neg h2]
  · rename_i h1; rw [if_neg h1]
set_option maxHeartbeats 4000000 in
theorem wFind_any (A : Nat) (cwd r u s k g : Int) (p : ByteArray) (hp : p.size ≤ maxLen) (w : World) (h : PTo w A own t) (hsd : Sd t) :
    Calls Try.prog 18 #[.pointer (some ⟨A, 0, none⟩), .int .i64 cwd, .agg #[.int .i64 r, .int .i64 u, .int .i64 s, .int .i64 k, .int .i64 g], .string p] w fun e w' => e = .returned (makeV (findP t cwd u g p.data.toList)) ∧ Below w.heap.size w w' := by
  have HI := toldI_ino t cwd u g p.data.toList (findP_none t cwd u g _)
  have C1 := Lib.hid (fun W => wcallerOf_any A cwd r u s k g W)
  have C2 := Lib.hid (fun W (hq : PTo W A own t) => wfind_any A cwd u g p hp W hq hsd)
  have HPT := Lib.hid (fun W (hb : Below w.heap.size w W) => h.below hb)
  generalize findP t cwd u g p.data.toList = r1 at *
  generalize toldI t r1 = r2 at *
  obtain ⟨f, fe⟩ := r1
  obtain ⟨⟨q0, q1, q2, q3, q4, q5, q6, q7⟩, er⟩ := r2
  simp only [ansV, infAg, infC] at HI C2
  obtain ⟨rfl, rfl⟩ := HI
  clear h hsd hp
  go_enter Try.func18, Try.ntmps18
  go_wp2_with fail
  refine calls_world (fun W => Below w.heap.size w W) (by first | exact Below.refl _ _ | exact bel1 _ _ | exact bel2 _ _ _) ?_
  rintro W b0
  refine (C1.out W).mono ?_
  rintro e W2 ⟨rfl, b2⟩
  have B2 := Lib.hid (bnext b0 b2)
  clear b0 b2
  go_wp2_with fail
  refine (C2.out W2 (HPT.out _ B2.out)).mono ?_
  rintro e W3 ⟨rfl, b3⟩
  have B3 := Lib.hid (bnext B2.out b3)
  clear b3 B2
  go_wp2

  go_ret2
  exact ⟨rfl, bal B3.out _⟩
end Go.Proofs.Ytflncolmehmaaaa
