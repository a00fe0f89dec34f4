/- The word of stage 7's laws: the program's tree, sound, its modes modes, its holds bounded; the calls by paths on it. -/
import Derived.Test.YtflncolmehmaaaaWT
import Derived.Test.YtflncolmehmaaaaM16
namespace Go.Proofs.Ytflncolmehmaaaa
open Go.RowKit Ino Go.Maps Pa
set_option linter.unusedVariables false
set_option linter.unusedSimpArgs false
variable {w0 w : World} {A n : Nat} {t : T}

theorem md_plain (h : Md t) (x : Nat) : Md (plainT t x) := by
  refine h.upd x ?_
  have := h x
  unfold rOk at this ⊢
  simp only [Bool.and_eq_true] at this ⊢
  exact ⟨rMode_plain this.1, this.2⟩
theorem md_create (h : Md t) (u g : Int) (d : Nat) (nm : Bs) (kind mode : Int) : Md (createP t u g d nm kind mode).1 := by
  have h1 := h.make kind mode u g 0
  unfold createP
  split
  · split
    · exact h1.enter _ _ _
    · exact (h1.enter _ _ _).drop _
  · exact h1
theorem md_makes (h : Md t) (u g : Int) (d : Nat) (nm : Bs) (kind mode : Int) : Md (makesP t u g d nm kind mode).1 := by
  unfold makesP
  split
  · exact md_create h _ _ _ _ _ _
  · exact h
theorem md_old (h : Md t) (u g : Int) (x : Nat) (want : Int) (em : Bool) : Md (oldP t u g x want em).1 := by
  unfold oldP
  (repeat' split) <;> first | exact h | exact h.hold _ | exact md_plain ((h.hold _).cut _) _
theorem md_open (h : Md t) (cwd u g : Int) (s : Bs) (want : Int) (mk al em : Bool) (mode : Int) : Md (openP t cwd u g s want mk al em mode).1 := by
  unfold openP
  (repeat' split) <;> first | exact h | exact md_old h _ _ _ _ _ | exact md_makes h _ _ _ _ _ _
theorem md_mkdir (h : Md t) (cwd u g : Int) (s : Bs) (mode : Int) : Md (mkdirP t cwd u g s mode).1 := by
  unfold mkdirP
  (repeat' split) <;> first | exact h | exact (md_makes h _ _ _ _ _ _).drop _ | exact md_makes h _ _ _ _ _ _
theorem md_rm (h : Md t) (cwd u g : Int) (s : Bs) (want : Bool) : Md (rmP t cwd u g s want).1 := by
  unfold rmP
  (repeat' split) <;> first | exact h | exact h.remove _ _
theorem md_link (h : Md t) (cwd u g : Int) (s a : Bs) : Md (linkP t cwd u g s a).1 := by
  unfold linkP
  (repeat' split) <;> first | exact h | exact h.enter _ _ _
theorem md_ren (h : Md t) (cwd u g : Int) (s a : Bs) : Md (renP t cwd u g s a).1 := by
  unfold renP
  (repeat' split) <;> first | exact h | exact h.move _ _ _ _
theorem md_chmod (h : Md t) (cwd u g : Int) (s : Bs) (m : Int) : Md (chmodP t cwd u g s m).1 := by
  unfold chmodP
  (repeat' split) <;> first | exact h | exact h.set _ _ _ _
theorem md_chown (h : Md t) (cwd u g : Int) (s : Bs) (o k : Int) : Md (chownP t cwd u g s o k).1 := by
  unfold chownP
  (repeat' split) <;> first | exact h | exact h.set _ _ _ _
theorem md_fput (h : Md t) (i a : Int) (s : Bs) : Md (fputP t i a s).1 := by
  unfold fputP
  split
  · exact md_plain (h.put _ _ _) _
  · exact h.put _ _ _
/-- the program's tree for the laws. -/
structure WP (w0 w : World) (A : Nat) (t : T) (n : Nat) : Prop where
  p : PS w0 w A t
  s : Sound t
  m : Md t
  b : HB n t
theorem WP.read {w' : World} (h : WP w0 w A t n) (hb : Below w.heap.size w w') : WP w0 w' A t n := ⟨h.p.read hb, h.s, h.m, h.b⟩
theorem WP.alloc (h : WP w0 w A t n) (o : Obj) : WP w0 (w.alloc o) A t n := ⟨h.p.alloc o, h.s, h.m, h.b⟩
theorem WP.drewN (h : WP w0 w A t n) (k : Nat) : WP w0 (w.drewN k) A t n := ⟨h.p.drewN k, h.s, h.m, h.b⟩
abbrev crd (r u s k g : Int) : Value := .agg #[.int .i64 r, .int .i64 u, .int .i64 s, .int .i64 k, .int .i64 g]
theorem wp_new (hb : Below w0.heap.size w0 w) (m o g : Int) (hm : wfI m) (hk : rOk m o g = true) :
    Calls Try.prog 7 #[.int .i64 m, .int .i64 o, .int .i64 g] w fun e w' => ∃ A, e = .returned (.pointer (some ⟨A, 0, none⟩)) ∧ WP w0 w' A (Ino.newP m o g) 0 :=
  (ps_new hb m o g hm hk).mono fun e w' ⟨A, h1, h2⟩ => ⟨A, h1, h2, sound_new _ _ _, md_new hk, fun k => by
    unfold Ino.newP Ino.upd
    split
    · exact Nat.le_refl _
    · exact Nat.le_refl _⟩
theorem wp_find (h : WP w0 w A t n) (cwd r u s k g : Int) (p : ByteArray) (hp : p.size ≤ maxLen) :
    Calls Try.prog 18 #[.pointer (some ⟨A, 0, none⟩), .int .i64 cwd, crd r u s k g, .string p] w fun e w' => e = .returned (makeV (findP t cwd u g p.data.toList)) ∧ WP w0 w' A t n ∧ Below w.heap.size w w' := by
  obtain ⟨own, hP, hB, hb⟩ := h.p
  exact (wFind_any A cwd r u s k g p hp w hP h.s.sd).mono fun e w' ⟨h1, h2⟩ => ⟨h1, h.read h2, h2⟩
theorem wp_mkdir (h : WP w0 w A t n) (hn : n ≤ 999999) (cwd r u s k g : Int) (p : ByteArray) (hp : p.size ≤ maxLen) (mode : Int) (hm : wfI mode) :
    Calls Try.prog 17 #[.pointer (some ⟨A, 0, none⟩), .int .i64 cwd, crd r u s k g, .string p, .int .i64 mode] w fun e w' => e = .returned (.int .i64 ((mkdirP t cwd u g p.data.toList mode).2 : Nat)) ∧ WP w0 w' A (mkdirP t cwd u g p.data.toList mode).1 (n + 1) := by
  obtain ⟨own, hP, hB, hb⟩ := h.p
  refine (wMkdir_any A cwd r u s k g p hp mode hm w hP h.s (fun k => Nat.le_trans (h.b k) hn) _ (pla_dir h.s.sd cwd u g _) (pla_name t cwd u g _)).mono fun e w' ⟨h1, h2⟩ => ?_
  rw [tie_mkdir h.s.sd cwd u g _ mode _ (pla_dir h.s.sd cwd u g _)] at h1 h2
  exact ⟨h1, PS.next hB hb h2, sound_mkdir h.s _ _ _ _ _, md_mkdir h.m _ _ _ _ _, h.b.mkdir _ _ _ _ _⟩
theorem wp_link (h : WP w0 w A t n) (cwd r u s k g : Int) (p a : ByteArray) (hp : p.size ≤ maxLen) (ha : a.size ≤ maxLen) :
    Calls Try.prog 21 #[.pointer (some ⟨A, 0, none⟩), .int .i64 cwd, crd r u s k g, .string p, .string a] w fun e w' => e = .returned (.int .i64 ((linkP t cwd u g p.data.toList a.data.toList).2 : Nat)) ∧ WP w0 w' A (linkP t cwd u g p.data.toList a.data.toList).1 n := by
  obtain ⟨own, hP, hB, hb⟩ := h.p
  refine (wLink_any A cwd r u s k g p a hp ha w hP h.s.sd (pla_name t cwd u g _)).mono fun e w' ⟨h1, h2⟩ => ?_
  rw [tie_link h.s.sd cwd u g _ _] at h1 h2
  exact ⟨h1, PS.next hB hb h2, sound_link h.s _ _ _ _ _, md_link h.m _ _ _ _ _, h.b.link _ _ _ _ _⟩
theorem wp_rm (h : WP w0 w A t n) (cwd r u s k g : Int) (p : ByteArray) (hp : p.size ≤ maxLen) (want : Bool) :
    Calls Try.prog 22 #[.pointer (some ⟨A, 0, none⟩), .int .i64 cwd, crd r u s k g, .string p, .bool want] w fun e w' => e = .returned (.int .i64 ((rmP t cwd u g p.data.toList want).2 : Nat)) ∧ WP w0 w' A (rmP t cwd u g p.data.toList want).1 n := by
  obtain ⟨own, hP, hB, hb⟩ := h.p
  refine (wRemove_any A cwd r u s k g p hp want w hP h.s (pla_name t cwd u g _)).mono fun e w' ⟨h1, h2⟩ => ?_
  rw [tie_rm h.s.sd cwd u g _ _] at h1 h2
  exact ⟨h1, PS.next hB hb h2, sound_rm h.s _ _ _ _ _, md_rm h.m _ _ _ _ _, h.b.rm _ _ _ _ _⟩
theorem wp_chown (h : WP w0 w A t n) (cwd r u s k g : Int) (p : ByteArray) (hp : p.size ≤ maxLen) (o x : Int) :
    Calls Try.prog 50 #[.pointer (some ⟨A, 0, none⟩), .int .i64 cwd, crd r u s k g, .string p, .int .i64 o, .int .i64 x] w fun e w' => e = .returned (.int .i64 ((chownP t cwd u g p.data.toList o x).2 : Nat)) ∧ WP w0 w' A (chownP t cwd u g p.data.toList o x).1 n := by
  obtain ⟨own, hP, hB, hb⟩ := h.p
  refine (wChown_any A cwd r u s k g p hp o x w hP h.s.sd (andNot_wf _ _)).mono fun e w' ⟨h1, h2⟩ => ?_
  rw [tie_chown cwd u g _ _ _] at h1 h2
  exact ⟨h1, PS.next hB hb h2, sound_chown h.s _ _ _ _ _ _, md_chown h.m _ _ _ _ _ _, h.b.chown _ _ _ _ _ _⟩
theorem wp_put (h : WP w0 w A t n) (i a : Int) (s : ByteArray) (ha : -9223372036854775808 ≤ a ∧ a ≤ 9223372036854775807) (hsz : s.size ≤ 1000000) :
    Calls Try.prog 20 #[.pointer (some ⟨A, 0, none⟩), .int .i64 i, .int .i64 a, .string s] w fun e w' => e = .returned (.int .i64 ((fputP t i a s.data.toList).2 : Nat)) ∧ WP w0 w' A (fputP t i a s.data.toList).1 n := by
  obtain ⟨own, hP, hB, hb⟩ := h.p
  refine (wPut_any A i a s w hP h.s.sd ha hsz (sound_put h.s _ _ _).sd (andNot_wf _ _)).mono fun e w' ⟨h1, h2⟩ => ?_
  rw [tie_fput h.s h.m] at h1 h2
  exact ⟨h1, PS.next hB hb h2, sound_fput h.s _ _ _, md_fput h.m _ _ _, h.b.fput _ _ _⟩
theorem wp_open (h : WP w0 w A t n) (hn : n ≤ 999999) (cwd r u s k g : Int) (p : ByteArray) (hp : p.size ≤ maxLen) (want : Int) (mk al em en : Bool) (mode : Int) (hm : wfI mode) :
    Calls Try.prog 19 #[.pointer (some ⟨A, 0, none⟩), .int .i64 cwd, crd r u s k g, .string p, .agg #[.int .i64 want, .bool mk, .bool al, .bool em, .bool en, .int .i64 mode]] w fun e w' => e = .returned (makeV (openP t cwd u g p.data.toList want mk al em mode).2) ∧ WP w0 w' A (openP t cwd u g p.data.toList want mk al em mode).1 (n + 1) := by
  obtain ⟨own, hP, hB, hb⟩ := h.p
  refine (wOpen_any A cwd r u s k g p hp want mk al em en mode hm w hP h.s (fun k => Nat.le_trans (h.b k) hn) (fun x => (sound_hold h.s _).sd) _ _ _ (toldI_ino t cwd u g _ (findP_none t cwd u g _)).1 (andNot_wf _ _) (pla_dir h.s.sd cwd u g _) (pla_name t cwd u g _) (pla_entry h.s.sd _) (andNot_wf _ _)).mono fun e w' ⟨h1, h2⟩ => ?_
  rw [tie_open h.s h.m] at h1 h2
  exact ⟨h1, PS.next hB hb h2, sound_open h.s _ _ _ _ _ _ _ _ _, md_open h.m _ _ _ _ _ _ _ _ _, h.b.open_ _ _ _ _ _ _ _ _ _⟩
theorem wp_stat (h : WP w0 w A t n) (i : Int) :
    Calls Try.prog 13 #[.pointer (some ⟨A, 0, none⟩), .int .i64 i] w fun e w' => e = .returned (infV (statP t i)) ∧ WP w0 w' A t n ∧ Below w.heap.size w w' :=
  (ps_stat h.p h.s.sd i).mono fun e w' ⟨h1, h2, h3⟩ => ⟨h1, h.read h3, h3⟩
end Go.Proofs.Ytflncolmehmaaaa
