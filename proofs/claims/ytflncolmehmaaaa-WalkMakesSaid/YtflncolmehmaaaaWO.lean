/- Contracts of package walk: Put. -/
import Derived.Test.YtflncolmehmaaaaWN
namespace Go.Proofs.Ytflncolmehmaaaa
open Go.RowKit Ino Go.Maps
open Pa (Blk strV)
set_option linter.unusedVariables false
set_option linter.unusedSimpArgs false
variable {own : Nat → Prop} {t : T}

/-- bytes put into a file. -/
def fputA (t : T) (i a : Int) (s : Bs) : T × Nat :=
  if (putP t i a s).2 = 0 then (clearA (putP t i a s).1 (statP (putP t i a s).1 i).1, 0) else putP t i a s
set_option maxHeartbeats 4000000 in
set_option maxRecDepth 100000 in
theorem wPut_any (A : Nat) (i a : Int) (s : ByteArray) (w : World) (h : PTo w A own t) (hsd : Sd t) (ha : -9223372036854775808 ≤ a ∧ a ≤ 9223372036854775807) (hsz : s.size ≤ 1000000)
    (hs2 : Sd (putP t i a s.data.toList).1) (hm : wfI (bits .andNot .i64 (statP (putP t i a s.data.toList).1 i).1.mode 2048)) :
    Calls Try.prog 20 #[.pointer (some ⟨A, 0, none⟩), .int .i64 i, .int .i64 a, .string s] w fun e w' =>
      e = .returned (.int .i64 ((fputA t i a s.data.toList).2 : Int)) ∧ Pt w A own (fputA t i a s.data.toList).1 w' := by
  have C1 := Lib.hid (fun W own' (hq : PTo W A own' t) => pput_any i a s W hq hsd ha hsz)
  have C2 := Lib.hid (fun W own' (hq : PTo W A own' (putP t i a s.data.toList).1) => pstat_any i W hq hs2)
  have C3 := Lib.hid (fun W own' (hq : PTo W A own' (putP t i a s.data.toList).1) => wclear_any A (statP (putP t i a s.data.toList).1 i).1 W hq hm)
  have hR : fputA t i a s.data.toList = if (putP t i a s.data.toList).2 = 0 then (clearA (putP t i a s.data.toList).1 (statP (putP t i a s.data.toList).1 i).1, 0) else putP t i a s.data.toList := rfl
  generalize fputA t i a s.data.toList = R at hR ⊢
  generalize statP (putP t i a s.data.toList).1 i = st at *
  generalize clearA (putP t i a s.data.toList).1 st.1 = t2 at *
  generalize putP t i a s.data.toList = c1 at *
  obtain ⟨t1, er⟩ := c1
  obtain ⟨⟨f0, f1, f2, f3, f4, f5, f6, f7⟩, ok⟩ := st
  simp only [infV] at C1 C2 C3 hR
  have HR := Lib.hid hR
  have H := Lib.hid h
  clear h hsd ha hsz hs2 hm hR
  go_enter Try.func20, Try.ntmps20
  go_wp2_with fail
  refine calls_world (fun W => Pk (fun _ => False) w own A t W) (by first | exact Pk.start H.out (Below.refl _ _) (fun _ => False.elim) | exact Pk.start H.out (bel1 _ _) (fun _ => False.elim)) ?_
  rintro W p0
  refine (p0.call (fun own' hp => C1.out W own' hp)).mono ?_
  rintro e W1 ⟨rfl, p1, f1'⟩
  have P1 := Lib.hid p1
  clear p0 p1 f1' C1
  by_cases he : er = 0
  · subst he
    go_wp2_with fail
    obtain ⟨own', q1⟩ := P1.out.pto
    refine (C2.out W1 own' q1).mono ?_
    rintro e W2 ⟨rfl, b2⟩
    have P2 := Lib.hid (P1.out.up b2 (L' := fun _ => False) (fun _ => False.elim))
    clear P1 q1 b2 C2
    go_wp2_with fail
    refine calls_world (fun W => Pk (fun _ => False) w own A t1 W) (by first | exact P2.out | exact P2.out.up (bel1 _ _) (fun _ => False.elim)) ?_
    rintro W3 p3
    refine (p3.call (fun own' hp => C3.out W3 own' hp)).mono ?_
    rintro e W4 ⟨rfl, p4, f4⟩
    have P4 := Lib.hid p4
    clear p3 p4 f4 P2 C3
    go_wp2
    go_ret
    rw [show R = (t2, 0) by rw [HR.out]; simp]
    exact ⟨rfl, P4.out.done⟩
  · have he2 : ((er : Int) == 0) = false := by simp; omega
    have he3 : ((er : Int) != 0) = true := by simp; omega
    go_wp2
    go_ret
    rw [show R = (t1, er) by rw [HR.out]; simp [he]]
    exact ⟨rfl, P1.out.done⟩
end Go.Proofs.Ytflncolmehmaaaa
