/- Contracts of package walk: create, openOld, openNew, clearSetUser, keepsSticky, mayGive, isWant, isMode. -/
import Derived.Test.YtflncolmehmaaaaWF0
import Derived.Test.YtflncolmehmaaaaWS
import Derived.Test.YtflncolmehmaaaaM29
namespace Go.Proofs.Ytflncolmehmaaaa
open Go.RowKit Ino Go.Maps
open Pa (Blk strV)
set_option linter.unusedVariables false
set_option linter.unusedSimpArgs false
variable {own : Nat → Prop} {t : T}

/-- what create is handed as a place. -/
structure PlA where
  dir : Inf
  name : Bs
  must : Bool
  taken : Bool
  entry : Inf
theorem wisWant_any (n : Int) (w : World) : Calls Try.prog 59 #[.int .i64 n] w fun e w' => e = .returned (.bool (wantOk n)) ∧ w = w' := by
  have h : wantOk n = (n == 4 || (n == 2 || n == 6)) := rfl
  cases h4 : (n == 4)
  · cases h2 : (n == 2)
    · cases h6 : (n == 6)
      all_goals
        rw [h4, h2, h6] at h
        go_enter Try.func59, Try.ntmps59
        go_wp2
        go_ret
        exact ⟨ret_bool (by rw [h]; rfl), rfl⟩
    · rw [h4, h2] at h
      go_enter Try.func59, Try.ntmps59
      go_wp2
      go_ret
      exact ⟨ret_bool (by rw [h]; rfl), rfl⟩
  · rw [h4] at h
    go_enter Try.func59, Try.ntmps59
    go_wp2
    go_ret
    exact ⟨ret_bool (by rw [h]; rfl), rfl⟩
theorem create_at {t t1 : T} {u g : Int} {d n c1 : Nat} {nm : Bs} {kind mode : Int} (h1 : makeP t (rMake kind mode u g 0) kind mode u g 0 = (t1, n, c1)) :
    createP t u g d nm kind mode = if c1 = 0 then (if (enterP t1 d nm n).2 = 0 then ((enterP t1 d nm n).1, n, 0) else ((dropP (enterP t1 d nm n).1 n).1, 0, (enterP t1 d nm n).2)) else (t1, 0, c1) := by
  unfold createP
  rw [h1]
set_option maxHeartbeats 4000000 in
set_option maxRecDepth 100000 in
theorem wcreate_any (A : Nat) (cwd u g : Int) (p : PlA) (kind mode : Int) (hm : wfI mode) (d : Nat) (hd : p.dir.ino = (d : Int)) (hns : p.name.length ≤ 1000) (w : World) (h : PTo w A own t) (hs : Sound t) (hb : ∀ k, (t k).holds ≤ 999999) :
    Calls Try.prog 57 #[(.agg #[.pointer (some ⟨A, 0, none⟩), .int .i64 cwd, .int .i64 u, .int .i64 g]), .agg (plcC p.dir p.name p.must p.taken p.entry), .int .i64 kind, .int .i64 mode] w fun e w' => e = .returned (makeV (createP t u g d p.name kind mode).2) ∧ Pt w A own (createP t u g d p.name kind mode).1 w' := by
  obtain ⟨⟨d0, d1, d2, d3, d4, d5, d6, d7⟩, nm, mu, tk, ⟨x0, x1, x2, x3, x4, x5, x6, x7⟩⟩ := p
  simp only at hd hns ⊢
  subst hd
  have HM := Lib.hid hm
  have s1 : Sound (makeP t (rMake kind mode u g 0) kind mode u g 0).1 := sound_make hs _ _ _ _ _ _ (rMake_kinds _ _ _ _ _)
  have b1 : ∀ k, ((makeP t (rMake kind mode u g 0) kind mode u g 0).1 k).holds ≤ 1000000 := fun k => by
    have := (HB.make (n := 999999) (t := t) hb (rMake kind mode u g 0) kind mode u g 0) k
    exact this
  have C1 := Lib.hid (fun W own' (hp : PTo W A own' t) => pmake_any kind mode u g 0 hm W hp hs.sd)
  obtain ⟨t1, n, c1, hmk⟩ : ∃ t1 n c1, makeP t (rMake kind mode u g 0) kind mode u g 0 = (t1, n, c1) := ⟨_, _, _, rfl⟩
  have hC := create_at (d := d) (nm := nm) hmk
  rw [hmk] at s1 b1 C1
  simp only [makeV] at C1
  generalize createP t u g d nm kind mode = cr at hC ⊢
  have hsz : (⟨nm.toArray⟩ : ByteArray).size ≤ maxLen := by show nm.length ≤ maxLen; unfold maxLen; omega
  have C2 := Lib.hid (fun W own' (hp : PTo W A own' t1) => penter_any (d : Int) (n : Int) ⟨nm.toArray⟩ W hp s1.sd hsz)
  have s2 : Sound (enterP t1 (d : Int) nm (n : Int)).1 := sound_enter s1 _ _ _
  have b2 : ∀ k, ((enterP t1 (d : Int) nm (n : Int)).1 k).holds ≤ 1000000 := fun k => (HB.enter (n := 1000000) (t := t1) b1 _ _ _) k
  have C3 := Lib.hid (fun W own' (hp : PTo W A own' (enterP t1 (d : Int) nm (n : Int)).1) => pdrop_any (n : Int) W hp s2 b2)
  have e2 : (⟨nm.toArray⟩ : ByteArray).data.toList = nm := rfl
  rw [e2] at C2
  obtain ⟨t2, c2, hen⟩ : ∃ t2 c2, enterP t1 (d : Int) nm (n : Int) = (t2, c2) := ⟨_, _, rfl⟩
  rw [hen] at C2 C3 hC
  obtain ⟨t3, ok, hdr⟩ : ∃ t3 ok, dropP t2 (n : Int) = (t3, ok) := ⟨_, _, rfl⟩
  simp only [hdr] at C3 hC
  have HC := Lib.hid hC
  have H := Lib.hid h
  clear hm s1 b1 hmk hC hsz s2 b2 e2 hen hdr h hs hb hns
  obtain ⟨ds, hds⟩ : ∃ ds : ByteArray, ds = ⟨nm.toArray⟩ := ⟨_, rfl⟩
  unfold plcC strV
  rw [← hds] at C2 ⊢
  clear hds
  go_enter Try.func57, Try.ntmps57
  go_wp2_with fail
  refine calls_world (fun W => Blk W w.heap.size 92 (calC A cwd u g) ∧ Blk W (w.heap.size + 1) 95 #[.int .i64 d, .int .i64 d1, .int .i64 d2, .int .i64 d3, .int .i64 d4, .int .i64 d5, .int .i64 d6, .int .i64 d7, .string ds, .bool mu, .bool tk, .int .i64 x0, .int .i64 x1, .int .i64 x2, .int .i64 x3, .int .i64 x4, .int .i64 x5, .int .i64 x6, .int .i64 x7] ∧ Pk (fun g => g = w.heap.size ∨ g = w.heap.size + 1) w own A t W) ⟨(Blk.new w _ _).alloc _, blk1 w _ _ _, Pk.start H.out (bel2 _ _ _) (fun g hg => by simp; omega)⟩ ?_
  rintro W ⟨k1, k2, p1⟩
  refine (p1.call (fun own' hp => C1.out W own' hp)).mono ?_
  rintro e W2 ⟨rfl, p2, f2⟩
  have k1 := Pk.blk k1 f2 (.inl rfl)
  have k2 := Pk.blk k2 f2 (.inr rfl)
  obtain ⟨c0, c1', c2', c3⟩ := k1.c4
  have e0 := k2.cell 0
  have e8 := k2.cell 8
  simp only [List.getElem?_toArray, List.getElem?_cons_zero, List.getElem?_cons_succ] at e0 e8
  have P2 := Lib.hid p2
  have K1 := Lib.hid k1
  have K2 := Lib.hid k2
  clear p1 p2 f2 k1 k2 C1 H
  by_cases hc1 : c1 = 0
  · subst hc1
    rw [if_pos rfl] at HC
    go_wp2_with fail
    refine (P2.out.call (fun own' hp => C2.out W2 own' hp)).mono ?_
    rintro e W3 ⟨rfl, p3, f3⟩
    have k1 := Pk.blk K1.out f3 (.inl rfl)
    obtain ⟨c0, c1', c2', c3⟩ := k1.c4
    have P3 := Lib.hid p3
    clear p3 f3 k1 K1 K2 e0 e8 P2
    by_cases hc2 : c2 = 0
    · subst hc2
      rw [if_pos rfl] at HC
      go_wp2
      go_ret2
      rw [HC.out]
      exact ⟨rfl, P3.out.done⟩
    · have he2 : ((c2 : Int) == 0) = false := by simp; omega
      have he3 : ((c2 : Int) != 0) = true := by simp; omega
      rw [if_neg hc2] at HC
      go_wp2_with fail
      refine (P3.out.call (fun own' hp => C3.out W3 own' hp)).mono ?_
      rintro e W4 ⟨rfl, p4, f4⟩
      have P4 := Lib.hid p4
      clear p4 f4 P3
      go_wp2
      go_ret2
      rw [HC.out]
      exact ⟨rfl, P4.out.done⟩
  · have he2 : ((c1 : Int) == 0) = false := by simp; omega
    have he3 : ((c1 : Int) != 0) = true := by simp; omega
    rw [if_neg hc1] at HC
    go_wp2
    go_ret2
    rw [HC.out]
    exact ⟨rfl, P2.out.done⟩
end Go.Proofs.Ytflncolmehmaaaa
