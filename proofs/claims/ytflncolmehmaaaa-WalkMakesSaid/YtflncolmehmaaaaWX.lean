/- The word of stage 7's laws with local blocks that stand. -/
import Derived.Test.YtflncolmehmaaaaWW
namespace Go.Proofs.Ytflncolmehmaaaa
open Go.RowKit Ino Go.Maps Pa
set_option linter.unusedVariables false
set_option linter.unusedSimpArgs false
variable {w0 w : World} {A n : Nat} {t u : T} {L : Nat → Prop}

/-- these blocks stand. -/
def Kp (L : Nat → Prop) (w w' : World) : Prop := ∀ g, L g → w'.heap[g]? = w.heap[g]?
theorem Kp.cell {w' : World} (h : Kp L w w') {g o : Nat} {v : Value} (hg : L g) (hc : w.cell? ⟨g, o, none⟩ = some v) : w'.cell? ⟨g, o, none⟩ = some v :=
  (World.cell?_of_block (h g hg)).trans hc
/-- as PS, with local blocks that the tree never has. -/
def PSk (L : Nat → Prop) (w0 w : World) (A : Nat) (t : T) : Prop := ∃ own, PTo w A own t ∧ (∀ g, own g → w0.heap.size ≤ g) ∧ Below w0.heap.size w0 w ∧ ∀ g, L g → ¬ own g ∧ g < w.heap.size
theorem PSk.next {w' : World} {own : Nat → Prop} (hB : ∀ g, own g → w0.heap.size ≤ g) (hb : Below w0.heap.size w0 w) (hL : ∀ g, L g → ¬ own g ∧ g < w.heap.size) (h : Pt w A own u w') : PSk L w0 w' A u ∧ Kp L w w' := by
  obtain ⟨own', hP, h1, h2, h3⟩ := h
  have hsz := hb.size
  refine ⟨⟨own', hP, fun g hg => ?_, hb.trans ⟨h3.os, h3.tape, h3.output, h3.size, fun k hk => h3.block k (by omega) fun ho => by have := hB k ho; omega⟩, fun g hg => ⟨fun ho => ?_, Nat.lt_of_lt_of_le (hL g hg).2 h3.size⟩⟩, fun g hg => h3.block g (hL g hg).2 (hL g hg).1⟩
  · rcases h2 g hg with h | h
    · exact hB g h
    · omega
  · rcases h2 g ho with h | h
    · exact (hL g hg).1 h
    · have := (hL g hg).2; omega
/-- the program's tree for the laws, with local blocks. -/
structure WL (L : Nat → Prop) (w0 w : World) (A : Nat) (t : T) (n : Nat) : Prop where
  p : PSk L w0 w A t
  s : Sound t
  m : Md t
  b : HB n t
theorem WL.read {w' : World} (h : WL L w0 w A t n) (hb : Below w.heap.size w w') : WL L w0 w' A t n := by
  refine ⟨?_, h.s, h.m, h.b⟩
  obtain ⟨own, hP, hB, hb0, hL⟩ := h.p
  exact ⟨own, hP.below hb, hB, hb0.trans (hb.mono hb0.size), fun g hg => ⟨(hL g hg).1, Nat.lt_of_lt_of_le (hL g hg).2 hb.size⟩⟩
theorem WL.kp {w' : World} (h : WL L w0 w A t n) (hb : Below w.heap.size w w') : Kp L w w' := by
  obtain ⟨own, hP, hB, hb0, hL⟩ := h.p
  exact fun g hg => hb.block g (hL g hg).2
/-- blocks that are laid meanwhile stand, too. -/
theorem WL.more {w' : World} (h : WL L w0 w A t n) (hb : Below w.heap.size w w') : WL (fun g => L g ∨ (w.heap.size ≤ g ∧ g < w'.heap.size)) w0 w' A t n := by
  refine ⟨?_, h.s, h.m, h.b⟩
  obtain ⟨own, hP, hB, hb0, hL⟩ := h.p
  refine ⟨_, (hP.kept).below hb, fun g hg => hB g hg.1, hb0.trans (hb.mono hb0.size), fun g hg => ?_⟩
  rcases hg with hg | hg
  · exact ⟨fun k => (hL g hg).1 k.1, Nat.lt_of_lt_of_le (hL g hg).2 hb.size⟩
  · exact ⟨fun k => by have := k.2; omega, hg.2⟩
theorem WL.weak {L' : Nat → Prop} (h : WL L w0 w A t n) (hl : ∀ g, L' g → L g) : WL L' w0 w A t n := by
  refine ⟨?_, h.s, h.m, h.b⟩
  obtain ⟨own, hP, hB, hb0, hL⟩ := h.p
  exact ⟨own, hP, hB, hb0, fun g hg => hL g (hl g hg)⟩
theorem WP.kept (h : WP w0 w A t n) : WL (fun _ => False) w0 w A t n := by
  refine ⟨?_, h.s, h.m, h.b⟩
  obtain ⟨own, hP, hB, hb⟩ := h.p
  exact ⟨own, hP, hB, hb, fun _ k => k.elim⟩
theorem WL.below (h : WL L w0 w A t n) : Below w0.heap.size w0 w := by
  obtain ⟨own, hP, hB, hb, hL⟩ := h.p
  exact hb
theorem WL.to (h : WL L w0 w A t n) : WP w0 w A t n := by
  obtain ⟨own, hP, hB, hb, hL⟩ := h.p
  exact ⟨⟨own, hP, hB, hb⟩, h.s, h.m, h.b⟩
theorem wl_find (h : WL L w0 w A t n) (cwd r u s k g : Int) (p : ByteArray) (hp : p.size ≤ maxLen) :
    Calls Try.prog 18 #[.pointer (some ⟨A, 0, none⟩), .int .i64 cwd, crd r u s k g, .string p] w fun e w' => e = .returned (makeV (findP t cwd u g p.data.toList)) ∧ WL L w0 w' A t n ∧ Below w.heap.size w w' ∧ Kp L w w' := by
  obtain ⟨own, hP, hB, hb, hL⟩ := h.p
  exact (wFind_any A cwd r u s k g p hp w hP h.s.sd).mono fun e w' ⟨h1, h2⟩ => ⟨h1, h.read h2, h2, h.kp h2⟩
theorem wl_mkdir (h : WL L w0 w A t n) (hn : n ≤ 999999) (cwd r u s k g : Int) (p : ByteArray) (hp : p.size ≤ maxLen) (mode : Int) (hm : wfI mode) :
    Calls Try.prog 17 #[.pointer (some ⟨A, 0, none⟩), .int .i64 cwd, crd r u s k g, .string p, .int .i64 mode] w fun e w' => e = .returned (.int .i64 ((mkdirP t cwd u g p.data.toList mode).2 : Nat)) ∧ WL L w0 w' A (mkdirP t cwd u g p.data.toList mode).1 (n + 1) ∧ Kp L w w' := by
  obtain ⟨own, hP, hB, hb, hL⟩ := h.p
  refine (wMkdir_any A cwd r u s k g p hp mode hm w hP h.s (fun k => Nat.le_trans (h.b k) hn) _ (pla_dir h.s.sd cwd u g _) (pla_name t cwd u g _)).mono fun e w' ⟨h1, h2⟩ => ?_
  rw [tie_mkdir h.s.sd cwd u g _ mode _ (pla_dir h.s.sd cwd u g _)] at h1 h2
  obtain ⟨k1, k2⟩ := PSk.next hB hb hL h2
  exact ⟨h1, ⟨k1, sound_mkdir h.s _ _ _ _ _, md_mkdir h.m _ _ _ _ _, h.b.mkdir _ _ _ _ _⟩, k2⟩
theorem wl_link (h : WL L w0 w A t n) (cwd r u s k g : Int) (p a : ByteArray) (hp : p.size ≤ maxLen) (ha : a.size ≤ maxLen) :
    Calls Try.prog 21 #[.pointer (some ⟨A, 0, none⟩), .int .i64 cwd, crd r u s k g, .string p, .string a] w fun e w' => e = .returned (.int .i64 ((linkP t cwd u g p.data.toList a.data.toList).2 : Nat)) ∧ WL L w0 w' A (linkP t cwd u g p.data.toList a.data.toList).1 n ∧ Kp L w w' := by
  obtain ⟨own, hP, hB, hb, hL⟩ := h.p
  refine (wLink_any A cwd r u s k g p a hp ha w hP h.s.sd (pla_name t cwd u g _)).mono fun e w' ⟨h1, h2⟩ => ?_
  rw [tie_link h.s.sd cwd u g _ _] at h1 h2
  obtain ⟨k1, k2⟩ := PSk.next hB hb hL h2
  exact ⟨h1, ⟨k1, sound_link h.s _ _ _ _ _, md_link h.m _ _ _ _ _, h.b.link _ _ _ _ _⟩, k2⟩
theorem wl_rm (h : WL L w0 w A t n) (cwd r u s k g : Int) (p : ByteArray) (hp : p.size ≤ maxLen) (want : Bool) :
    Calls Try.prog 22 #[.pointer (some ⟨A, 0, none⟩), .int .i64 cwd, crd r u s k g, .string p, .bool want] w fun e w' => e = .returned (.int .i64 ((rmP t cwd u g p.data.toList want).2 : Nat)) ∧ WL L w0 w' A (rmP t cwd u g p.data.toList want).1 n ∧ Kp L w w' := by
  obtain ⟨own, hP, hB, hb, hL⟩ := h.p
  refine (wRemove_any A cwd r u s k g p hp want w hP h.s (pla_name t cwd u g _)).mono fun e w' ⟨h1, h2⟩ => ?_
  rw [tie_rm h.s.sd cwd u g _ _] at h1 h2
  obtain ⟨k1, k2⟩ := PSk.next hB hb hL h2
  exact ⟨h1, ⟨k1, sound_rm h.s _ _ _ _ _, md_rm h.m _ _ _ _ _, h.b.rm _ _ _ _ _⟩, k2⟩
theorem wl_chown (h : WL L w0 w A t n) (cwd r u s k g : Int) (p : ByteArray) (hp : p.size ≤ maxLen) (o x : Int) :
    Calls Try.prog 50 #[.pointer (some ⟨A, 0, none⟩), .int .i64 cwd, crd r u s k g, .string p, .int .i64 o, .int .i64 x] w fun e w' => e = .returned (.int .i64 ((chownP t cwd u g p.data.toList o x).2 : Nat)) ∧ WL L w0 w' A (chownP t cwd u g p.data.toList o x).1 n ∧ Kp L w w' := by
  obtain ⟨own, hP, hB, hb, hL⟩ := h.p
  refine (wChown_any A cwd r u s k g p hp o x w hP h.s.sd (andNot_wf _ _)).mono fun e w' ⟨h1, h2⟩ => ?_
  rw [tie_chown cwd u g _ _ _] at h1 h2
  obtain ⟨k1, k2⟩ := PSk.next hB hb hL h2
  exact ⟨h1, ⟨k1, sound_chown h.s _ _ _ _ _ _, md_chown h.m _ _ _ _ _ _, h.b.chown _ _ _ _ _ _⟩, k2⟩
theorem wl_put (h : WL L w0 w A t n) (i a : Int) (s : ByteArray) (ha : -9223372036854775808 ≤ a ∧ a ≤ 9223372036854775807) (hsz : s.size ≤ 1000000) :
    Calls Try.prog 20 #[.pointer (some ⟨A, 0, none⟩), .int .i64 i, .int .i64 a, .string s] w fun e w' => e = .returned (.int .i64 ((fputP t i a s.data.toList).2 : Nat)) ∧ WL L w0 w' A (fputP t i a s.data.toList).1 n ∧ Kp L w w' := by
  obtain ⟨own, hP, hB, hb, hL⟩ := h.p
  refine (wPut_any A i a s w hP h.s.sd ha hsz (sound_put h.s _ _ _).sd (andNot_wf _ _)).mono fun e w' ⟨h1, h2⟩ => ?_
  rw [tie_fput h.s h.m] at h1 h2
  obtain ⟨k1, k2⟩ := PSk.next hB hb hL h2
  exact ⟨h1, ⟨k1, sound_fput h.s _ _ _, md_fput h.m _ _ _, h.b.fput _ _ _⟩, k2⟩
theorem wl_open (h : WL L w0 w A t n) (hn : n ≤ 999999) (cwd r u s k g : Int) (p : ByteArray) (hp : p.size ≤ maxLen) (want : Int) (mk al em en : Bool) (mode : Int) (hm : wfI mode) :
    Calls Try.prog 19 #[.pointer (some ⟨A, 0, none⟩), .int .i64 cwd, crd r u s k g, .string p, .agg #[.int .i64 want, .bool mk, .bool al, .bool em, .bool en, .int .i64 mode]] w fun e w' => e = .returned (makeV (openP t cwd u g p.data.toList want mk al em mode).2) ∧ WL L w0 w' A (openP t cwd u g p.data.toList want mk al em mode).1 (n + 1) ∧ Kp L w w' := by
  obtain ⟨own, hP, hB, hb, hL⟩ := h.p
  refine (wOpen_any A cwd r u s k g p hp want mk al em en mode hm w hP h.s (fun k => Nat.le_trans (h.b k) hn) (fun x => (sound_hold h.s _).sd) _ _ _ (toldI_ino t cwd u g _ (findP_none t cwd u g _)).1 (andNot_wf _ _) (pla_dir h.s.sd cwd u g _) (pla_name t cwd u g _) (pla_entry h.s.sd _) (andNot_wf _ _)).mono fun e w' ⟨h1, h2⟩ => ?_
  rw [tie_open h.s h.m] at h1 h2
  obtain ⟨k1, k2⟩ := PSk.next hB hb hL h2
  exact ⟨h1, ⟨k1, sound_open h.s _ _ _ _ _ _ _ _ _, md_open h.m _ _ _ _ _ _ _ _ _, h.b.open_ _ _ _ _ _ _ _ _ _⟩, k2⟩
theorem wl_stat (h : WL L w0 w A t n) (i : Int) :
    Calls Try.prog 13 #[.pointer (some ⟨A, 0, none⟩), .int .i64 i] w fun e w' => e = .returned (infV (statP t i)) ∧ WL L w0 w' A t n ∧ Kp L w w' ∧ Below w.heap.size w w' :=
  (ps_stat h.to.p h.s.sd i).mono fun e w' ⟨h1, h2, h3⟩ => ⟨h1, h.read h3, h.kp h3, h3⟩
theorem wl_data (h : WL L w0 w A t n) (i : Int) :
    Calls Try.prog 23 #[.pointer (some ⟨A, 0, none⟩), .int .i64 i] w fun e w' => e = .returned (.string ⟨(dataP t i).toArray⟩) ∧ w = w' := ps_data h.to.p i
end Go.Proofs.Ytflncolmehmaaaa
