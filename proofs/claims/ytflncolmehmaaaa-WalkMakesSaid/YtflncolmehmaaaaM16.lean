/- LA, LB, LC: several texts in one. -/
import Derived.Test.YtflncolmehmaaaaM1
import Derived.Test.YtflncolmehmaaaaM14
import Derived.Test.YtflncolmehmaaaaM15

/- The program's calls for the laws: the tree lies above the blocks that were there. -/
namespace Go.Proofs.Ytflncolmehmaaaa
open Go.RowKit Ino Go.Maps
set_option linter.unusedVariables false
set_option linter.unusedSimpArgs false

/-- the tree t lies at A, above what lay in w0; what lay in w0 stands. -/
def PS (w0 w : World) (A : Nat) (t : T) : Prop := ∃ own, PTo w A own t ∧ (∀ g, own g → w0.heap.size ≤ g) ∧ Below w0.heap.size w0 w
variable {w0 w : World} {A : Nat} {t u : T}
theorem PS.below (h : PS w0 w A t) : Below w0.heap.size w0 w := by
  obtain ⟨_, _, _, h⟩ := h
  exact h
theorem PS.next {w' : World} {own : Nat → Prop} (hB : ∀ g, own g → w0.heap.size ≤ g) (hb : Below w0.heap.size w0 w) (h : Pt w A own u w') : PS w0 w' A u := by
  obtain ⟨own', hP, h1, h2, h3⟩ := h
  have hsz := hb.size
  refine ⟨own', hP, fun g hg => ?_, hb.trans ⟨h3.os, h3.tape, h3.output, h3.size, fun k hk => h3.block k (by omega) fun ho => by have := hB k ho; omega⟩⟩
  rcases h2 g hg with h | h
  · exact hB g h
  · omega
theorem PS.read {w' : World} (h : PS w0 w A t) (hb : Below w.heap.size w w') : PS w0 w' A t := by
  obtain ⟨own, hP, hB, hb0⟩ := h
  exact ⟨own, hP.below hb, hB, hb0.trans (hb.mono hb0.size)⟩
theorem PS.alloc (h : PS w0 w A t) (o : Obj) : PS w0 (w.alloc o) A t := h.read ((Below.refl _ w).alloc (Nat.le_refl _) o)
theorem PS.drew (h : PS w0 w A t) : PS w0 w.drew A t := h.read (Below.refl _ w).drew
theorem PS.drewN (h : PS w0 w A t) (n : Nat) : PS w0 (w.drewN n) A t := h.read ⟨rfl, rfl, rfl, Nat.le_refl _, fun _ _ => rfl⟩
/-- a cell of a block that is none of the tree's. -/
theorem ps_new (hb : Below w0.heap.size w0 w) (m o g : Int) (hm : wfI m) (hk : rOk m o g = true) :
    Calls Try.prog 7 #[.int .i64 m, .int .i64 o, .int .i64 g] w fun e w' => ∃ A, e = .returned (.pointer (some ⟨A, 0, none⟩)) ∧ PS w0 w' A (newP m o g) := by
  refine (pnew_any m o g hm hk w).mono fun e w' ⟨A, he, hP, hB⟩ => ⟨A, he, _, hP, fun g hg => Nat.le_trans hb.size hg, hb.trans (hB.mono hb.size)⟩
theorem ps_make (h : PS w0 w A t) (hs : Sd t) (kind m o g tty : Int) (hm : wfI m) :
    Calls Try.prog 24 #[.pointer (some ⟨A, 0, none⟩), .int .i64 kind, .int .i64 m, .int .i64 o, .int .i64 g, .int .i64 tty] w fun e w' =>
      e = .returned (makeV (makeP t (rMake kind m o g tty) kind m o g tty).2) ∧ PS w0 w' A (makeP t (rMake kind m o g tty) kind m o g tty).1 := by
  obtain ⟨own, hP, hB, hb⟩ := h
  exact (pmake_any kind m o g tty hm w hP hs).mono fun e w' ⟨he, hp⟩ => ⟨he, PS.next hB hb hp⟩
theorem ps_hold (h : PS w0 w A t) (i : Int) (hb : ∀ k, (t k).holds ≤ 1000000) :
    Calls Try.prog 33 #[.pointer (some ⟨A, 0, none⟩), .int .i64 i] w fun e w' => e = .returned (.bool (holdP t i).2) ∧ PS w0 w' A (holdP t i).1 := by
  obtain ⟨own, hP, hB, hb2⟩ := h
  exact (phold_any i w hP hb).mono fun e w' ⟨he, hp⟩ => ⟨he, PS.next hB hb2 hp⟩
theorem ps_drop (h : PS w0 w A t) (hs : Sound t) (i : Int) (hb : ∀ k, (t k).holds ≤ 1000000) :
    Calls Try.prog 26 #[.pointer (some ⟨A, 0, none⟩), .int .i64 i] w fun e w' => e = .returned (.bool (dropP t i).2) ∧ PS w0 w' A (dropP t i).1 := by
  obtain ⟨own, hP, hB, hb2⟩ := h
  exact (pdrop_any i w hP hs hb).mono fun e w' ⟨he, hp⟩ => ⟨he, PS.next hB hb2 hp⟩
theorem ps_data (h : PS w0 w A t) (i : Int) :
    Calls Try.prog 23 #[.pointer (some ⟨A, 0, none⟩), .int .i64 i] w fun e w' => e = .returned (.string ⟨(dataP t i).toArray⟩) ∧ w = w' := by
  obtain ⟨own, hP, hB, hb2⟩ := h
  exact pdata_any i w hP
theorem ps_cut (h : PS w0 w A t) (hs : Sd t) (i : Int) :
    Calls Try.prog 40 #[.pointer (some ⟨A, 0, none⟩), .int .i64 i] w fun e w' => e = .returned (.int .i64 (cutP t i).2) ∧ PS w0 w' A (cutP t i).1 := by
  obtain ⟨own, hP, hB, hb2⟩ := h
  exact (pcut_any i w hP hs).mono fun e w' ⟨he, hp⟩ => ⟨he, PS.next hB hb2 hp⟩
theorem ps_look (h : PS w0 w A t) (hs : Sd t) (i : Int) (s : ByteArray) (hsz : s.size ≤ maxLen) :
    Calls Try.prog 11 #[.pointer (some ⟨A, 0, none⟩), .int .i64 i, .string s] w fun e w' => e = .returned (lookV (lookP t i s.data.toList)) ∧ w = w' := by
  obtain ⟨own, hP, hB, hb2⟩ := h
  exact plook_any i s w hP hs hsz
theorem ps_stat (h : PS w0 w A t) (hs : Sd t) (i : Int) :
    Calls Try.prog 13 #[.pointer (some ⟨A, 0, none⟩), .int .i64 i] w fun e w' => e = .returned (infV (statP t i)) ∧ PS w0 w' A t ∧ Below w.heap.size w w' := by
  have H := h
  obtain ⟨own, hP, hB, hb2⟩ := h
  exact (pstat_any i w hP hs).mono fun e w' ⟨he, hp⟩ => ⟨he, H.read hp, hp⟩
theorem ps_set (h : PS w0 w A t) (i m o g : Int) (hm : wfI m) :
    Calls Try.prog 36 #[.pointer (some ⟨A, 0, none⟩), .int .i64 i, .int .i64 m, .int .i64 o, .int .i64 g] w fun e w' => e = .returned (.int .i64 (setP t i (rOk m o g) m o g).2) ∧ PS w0 w' A (setP t i (rOk m o g) m o g).1 := by
  obtain ⟨own, hP, hB, hb2⟩ := h
  exact (pset_any i m o g hm w hP).mono fun e w' ⟨he, hp⟩ => ⟨he, PS.next hB hb2 hp⟩
theorem ps_put (h : PS w0 w A t) (hs : Sd t) (i a : Int) (s : ByteArray) (ha : -9223372036854775808 ≤ a ∧ a ≤ 9223372036854775807) (hsz : s.size ≤ 1000000) :
    Calls Try.prog 38 #[.pointer (some ⟨A, 0, none⟩), .int .i64 i, .int .i64 a, .string s] w fun e w' => e = .returned (.int .i64 (putP t i a s.data.toList).2) ∧ PS w0 w' A (putP t i a s.data.toList).1 := by
  obtain ⟨own, hP, hB, hb2⟩ := h
  exact (pput_any i a s w hP hs ha hsz).mono fun e w' ⟨he, hp⟩ => ⟨he, PS.next hB hb2 hp⟩
theorem ps_enter (h : PS w0 w A t) (hs : Sd t) (dir ino : Int) (s : ByteArray) (hsz : s.size ≤ maxLen) :
    Calls Try.prog 25 #[.pointer (some ⟨A, 0, none⟩), .int .i64 dir, .string s, .int .i64 ino] w fun e w' => e = .returned (.int .i64 (enterP t dir s.data.toList ino).2) ∧ PS w0 w' A (enterP t dir s.data.toList ino).1 := by
  obtain ⟨own, hP, hB, hb2⟩ := h
  exact (penter_any dir ino s w hP hs hsz).mono fun e w' ⟨he, hp⟩ => ⟨he, PS.next hB hb2 hp⟩
theorem ps_remove (h : PS w0 w A t) (hs : Sound t) (dir : Int) (s : ByteArray) (hsz : s.size ≤ maxLen) :
    Calls Try.prog 27 #[.pointer (some ⟨A, 0, none⟩), .int .i64 dir, .string s] w fun e w' => e = .returned (.int .i64 (removeP t dir s.data.toList).2) ∧ PS w0 w' A (removeP t dir s.data.toList).1 := by
  obtain ⟨own, hP, hB, hb2⟩ := h
  exact (premoveE_any dir s w hP hs hsz).mono fun e w' ⟨he, hp⟩ => ⟨he, PS.next hB hb2 hp⟩
theorem ps_move (h : PS w0 w A t) (hs : Sound t) (dir to : Int) (s a : ByteArray) (hsz : s.size ≤ maxLen) (haz : a.size ≤ maxLen) :
    Calls Try.prog 44 #[.pointer (some ⟨A, 0, none⟩), .int .i64 dir, .string s, .int .i64 to, .string a] w fun e w' => e = .returned (.int .i64 (moveP t dir s.data.toList to a.data.toList).2) ∧ PS w0 w' A (moveP t dir s.data.toList to a.data.toList).1 := by
  obtain ⟨own, hP, hB, hb2⟩ := h
  exact (pmove_any dir to s a w hP hs hsz haz).mono fun e w' ⟨he, hp⟩ => ⟨he, PS.next hB hb2 hp⟩
theorem ps_names (h : PS w0 w A t) (hs : Sd t) (i : Int) :
    Calls Try.prog 10 #[.pointer (some ⟨A, 0, none⟩), .int .i64 i] w fun e w' => ∃ v, e = .returned v ∧ w'.ownsRow w.heap.size 9 1 v (namesP t i).length ((namesP t i).map strC) ∧ PS w0 w' A t ∧ Below w.heap.size w w' := by
  have H := h
  obtain ⟨own, hP, hB, hb2⟩ := h
  exact (pnames_any i w hP hs).mono fun e w' ⟨v, he, hr, hp⟩ => ⟨v, he, hr, H.read hp, hp⟩
/-! ### with what they answer -/
theorem ps_make_at (h : PS w0 w A t) (hs : Sd t) (kind m o g tty : Int) (hm : wfI m) {n c : Nat} {z cz : Int} (hr : makeP t (rMake kind m o g tty) kind m o g tty = (u, n, c)) (hz : (n : Int) = z) (hc : (c : Int) = cz) :
    Calls Try.prog 24 #[.pointer (some ⟨A, 0, none⟩), .int .i64 kind, .int .i64 m, .int .i64 o, .int .i64 g, .int .i64 tty] w fun e w' => e = .returned (.tuple #[.int .i64 z, .int .i64 cz]) ∧ PS w0 w' A u := by
  have := ps_make h hs kind m o g tty hm
  rw [hr] at this
  subst hz hc
  exact this
theorem ps_enter_at (h : PS w0 w A t) (hs : Sd t) (dir ino : Int) (s : ByteArray) (hsz : s.size ≤ maxLen) {c : Nat} {cz : Int} (hr : enterP t dir s.data.toList ino = (u, c)) (hc : (c : Int) = cz) :
    Calls Try.prog 25 #[.pointer (some ⟨A, 0, none⟩), .int .i64 dir, .string s, .int .i64 ino] w fun e w' => e = .returned (.int .i64 cz) ∧ PS w0 w' A u := by
  have := ps_enter h hs dir ino s hsz
  rw [hr] at this
  subst hc
  exact this
theorem ps_remove_at (h : PS w0 w A t) (hs : Sound t) (dir : Int) (s : ByteArray) (hsz : s.size ≤ maxLen) {c : Nat} {cz : Int} (hr : removeP t dir s.data.toList = (u, c)) (hc : (c : Int) = cz) :
    Calls Try.prog 27 #[.pointer (some ⟨A, 0, none⟩), .int .i64 dir, .string s] w fun e w' => e = .returned (.int .i64 cz) ∧ PS w0 w' A u := by
  have := ps_remove h hs dir s hsz
  rw [hr] at this
  subst hc
  exact this
theorem ps_drop_at (h : PS w0 w A t) (hs : Sound t) (i : Int) (hb : ∀ k, (t k).holds ≤ 1000000) {b : Bool} (hr : dropP t i = (u, b)) :
    Calls Try.prog 26 #[.pointer (some ⟨A, 0, none⟩), .int .i64 i] w fun e w' => e = .returned (.bool b) ∧ PS w0 w' A u := by
  have := ps_drop h hs i hb
  rw [hr] at this
  exact this
theorem ps_look_at (h : PS w0 w A t) (hs : Sd t) (i : Int) (s : ByteArray) (hsz : s.size ≤ maxLen) {n : Nat} {b : Bool} {z : Int} (hr : lookP t i s.data.toList = (n, b)) (hz : (n : Int) = z) :
    Calls Try.prog 11 #[.pointer (some ⟨A, 0, none⟩), .int .i64 i, .string s] w fun e w' => e = .returned (.tuple #[.int .i64 z, .bool b]) ∧ w = w' := by
  have := ps_look h hs i s hsz
  rw [hr] at this
  subst hz
  exact this
/-- what Stat tells, as a value. -/
def infA (a : Inf) : Value := .agg #[.int .i64 a.ino, .int .i64 a.kind, .int .i64 a.mode, .int .i64 a.owner, .int .i64 a.group, .int .i64 a.links, .int .i64 a.size, .int .i64 a.tty]
theorem ps_stat_at (h : PS w0 w A t) (hs : Sd t) (i : Int) {a : Inf} {b : Bool} (hr : statP t i = (a, b)) :
    Calls Try.prog 13 #[.pointer (some ⟨A, 0, none⟩), .int .i64 i] w fun e w' => e = .returned (.tuple #[.agg #[.int .i64 a.ino, .int .i64 a.kind, .int .i64 a.mode, .int .i64 a.owner, .int .i64 a.group, .int .i64 a.links, .int .i64 a.size, .int .i64 a.tty], .bool b]) ∧ PS w0 w' A t ∧ Below w.heap.size w w' := by
  have := ps_stat h hs i
  rw [hr] at this
  exact this
theorem ps_put_at (h : PS w0 w A t) (hs : Sd t) (i a : Int) (s : ByteArray) (ha : -9223372036854775808 ≤ a ∧ a ≤ 9223372036854775807) (hsz : s.size ≤ 1000000) {c : Nat} {cz : Int} (hr : putP t i a s.data.toList = (u, c)) (hc : (c : Int) = cz) :
    Calls Try.prog 38 #[.pointer (some ⟨A, 0, none⟩), .int .i64 i, .int .i64 a, .string s] w fun e w' => e = .returned (.int .i64 cz) ∧ PS w0 w' A u := by
  have := ps_put h hs i a s ha hsz
  rw [hr] at this
  subst hc
  exact this
theorem ps_move_at (h : PS w0 w A t) (hs : Sound t) (dir to : Int) (s a : ByteArray) (hsz : s.size ≤ maxLen) (haz : a.size ≤ maxLen) {c : Nat} {cz : Int} (hr : moveP t dir s.data.toList to a.data.toList = (u, c)) (hc : (c : Int) = cz) :
    Calls Try.prog 44 #[.pointer (some ⟨A, 0, none⟩), .int .i64 dir, .string s, .int .i64 to, .string a] w fun e w' => e = .returned (.int .i64 cz) ∧ PS w0 w' A u := by
  have := ps_move h hs dir to s a hsz haz
  rw [hr] at this
  subst hc
  exact this
theorem ps_hold_at (h : PS w0 w A t) (i : Int) (hb : ∀ k, (t k).holds ≤ 1000000) {b : Bool} (hr : holdP t i = (u, b)) :
    Calls Try.prog 33 #[.pointer (some ⟨A, 0, none⟩), .int .i64 i] w fun e w' => e = .returned (.bool b) ∧ PS w0 w' A u := by
  have := ps_hold h i hb
  rw [hr] at this
  exact this
theorem ps_cut_at (h : PS w0 w A t) (hs : Sd t) (i : Int) {c : Nat} {cz : Int} (hr : cutP t i = (u, c)) (hc : (c : Int) = cz) :
    Calls Try.prog 40 #[.pointer (some ⟨A, 0, none⟩), .int .i64 i] w fun e w' => e = .returned (.int .i64 cz) ∧ PS w0 w' A u := by
  have := ps_cut h hs i
  rw [hr] at this
  subst hc
  exact this
end Go.Proofs.Ytflncolmehmaaaa
/- What the laws' first steps do: plain facts. -/
namespace Go.Proofs.Ytflncolmehmaaaa.Ino

theorem run_is : ∀ (l : List Nat) (t : T) (i : Nat), (run t l i).is = true → (t i).is = true
  | [], _, _, h => h
  | a :: l, t, i, h => by
    have := run_is l (del t a) i h
    by_cases e : i = a
    · rw [e, del_self] at this; cases this
    · rw [del_is t e] at this; exact this
theorem gone_is {t : T} {i : Nat} (h : (goneP t i).is = true) : (t i).is = true := by
  obtain ⟨l, _, h2, _⟩ := goneP_gone t
  rw [← h2] at h
  exact run_is l t i h
theorem run_holds : ∀ (l : List Nat) (t : T) (i : Nat), (run t l i).holds ≤ (t i).holds
  | [], _, _ => Nat.le_refl _
  | a :: l, t, i => by
    have h := run_holds l (del t a) i
    by_cases e : i = a
    · rw [e, del_self] at h
      rw [e]
      exact Nat.le_trans h (Nat.zero_le _)
    · rw [del_holds t e] at h; exact h
theorem gone_holds (t : T) (i : Nat) : (goneP t i).holds ≤ (t i).holds := by
  obtain ⟨l, _, h2, _⟩ := goneP_gone t
  rw [← h2]
  exact run_holds l t i
theorem gone_del {t : T} {i : Nat} (h : DelOk t i) : (goneP t i).is = false := by
  cases hh : (goneP t i).is
  · rfl
  · rw [← goneP_del h] at hh
    have := gone_is hh
    rw [del_self] at this; cases this
theorem free_one (m o g : Int) : freeP (newP m o g) = some 2 := by
  refine freeUp_is (by decide) (by decide) ?_ fun j h1 h2 => ?_
  · rw [show newP m o g 2 = noN from upd_other _ _ (by decide)]; rfl
  · rw [show j = 1 by omega, show newP m o g 1 = rootN m o g from upd_same _ _ _]; rfl
/-- a root and one inode more. -/
def twoT (m o g : Int) (n : Nod) : T := upd (newP m o g) 2 n
theorem two_1 (m o g : Int) (n : Nod) : twoT m o g n 1 = rootN m o g := by
  unfold twoT; rw [upd_other _ _ (by decide)]; exact upd_same _ _ _
theorem two_2 (m o g : Int) (n : Nod) : twoT m o g n 2 = n := upd_same _ _ _
theorem two_o (m o g : Int) (n : Nod) {i : Nat} (h1 : i ≠ 1) (h2 : i ≠ 2) : twoT m o g n i = noN := by
  unfold twoT; rw [upd_other _ _ h2]; exact upd_other _ _ h1
theorem make_first (m o g kind mode owner group tty : Int) : makeP (newP m o g) true kind mode owner group tty = (twoT m o g (madeN kind mode owner group tty 2), 2, 0) := by
  unfold makeP
  rw [if_pos rfl, free_one]
  rfl
theorem links_two {m o g : Int} {n : Nod} (h : n.ents = []) (x : Nat) : links (twoT m o g n) x = 0 := links_bare (fun i => by
  by_cases e2 : i = 2
  · rw [e2, two_2]; exact h
  · by_cases e1 : i = 1
    · rw [e1, two_1]; rfl
    · rw [two_o _ _ _ _ e1 e2]; rfl) x
/-- the first inode, entered into the root under a name. -/
theorem enter_first (m o g : Int) {n : Nod} (h1 : n.is = true) (h2 : n.ents = []) {nm : Bs} (hn : nameOk nm = true) : enterP (twoT m o g n) 1 nm 2 = (add (twoT m o g n) 1 nm 2, 0) := by
  have hi1 : isI (twoT m o g n) 1 = true := by unfold isI; rw [show (1 : Int).toNat = 1 from rfl, two_1]; rfl
  have hi2 : isI (twoT m o g n) 2 = true := by unfold isI; rw [show (2 : Int).toNat = 2 from rfl, two_2, h1]; rfl
  have hl := links_two (m := m) (o := o) (g := g) h2 2
  unfold enterP
  rw [if_pos ⟨hi1, hi2⟩, show (1 : Int).toNat = 1 from rfl, show (2 : Int).toNat = 2 from rfl, two_1, two_2]
  rw [if_pos (show (rootN m o g).kind = 1 from rfl), if_pos hn, if_neg (by show ¬ (findE [] nm).isSome = true; exact Bool.false_ne_true), if_neg (by rw [hl]; rintro (h | ⟨_, h⟩ | h) <;> omega), if_neg (by show ¬ 40 ≤ 0; decide), if_neg]
  rintro ⟨hk, j, hj⟩
  have : iter (twoT m o g n) j 1 = 1 := iter_fix (by show (twoT m o g n 1).parent = 1; rw [two_1]; rfl) j
  rw [this] at hj
  cases hj
end Go.Proofs.Ytflncolmehmaaaa.Ino
/- The first, small case of each law: plain facts, and that its call returns true. -/
namespace Go.Proofs.Ytflncolmehmaaaa
open Go.RowKit Ino Go.Maps
set_option linter.unusedVariables false
set_option linter.unusedSimpArgs false

def sN : Nod := madeN 1 448 5 6 0 2
def S1 : T := twoT 493 0 0 sN
def S2 : T := add S1 1 [97] 2
def S3 : T := upd S2 2 { S2 2 with holds := 0 }
noncomputable def S4 : T := goneP (rem S3 1 [97] 2)
theorem s_make : makeP (newP 493 0 0) (rMake 1 448 5 6 0) 1 448 5 6 0 = (S1, 2, 0) := by
  rw [show rMake 1 448 5 6 0 = true by decide]
  exact make_first _ _ _ _ _ _ _ _
theorem s_sd0 : Sound (newP 493 0 0) := sound_new _ _ _
theorem s_s1 : Sound S1 := by
  have := sound_make s_sd0 (rMake 1 448 5 6 0) 1 448 5 6 0 (fun _ => .inr (.inl rfl))
  rw [s_make] at this
  exact this
theorem s_enter : enterP S1 1 [97] 2 = (S2, 0) := enter_first 493 0 0 rfl rfl (by decide)
theorem s_s2 : Sound S2 := by
  have := sound_enter s_s1 1 [97] 2
  rw [s_enter] at this
  exact this
theorem s2_ents (j : Nat) : (S2 j).ents = if j = 1 then [([97], 2)] else (S1 j).ents := by
  unfold S2
  rw [add_ents]
  have : (S1 1).ents = [] := by unfold S1; rw [two_1]; rfl
  rw [this]
  rfl
theorem s2_kind (j : Nat) : (S2 j).kind = (S1 j).kind := add_kind _ _ _ _ _
theorem s2_is (j : Nat) : (S2 j).is = (S1 j).is := add_is _ _ _ _ _
theorem s1_2 : S1 2 = sN := two_2 _ _ _ _
theorem s1_1 : S1 1 = rootN 493 0 0 := two_1 _ _ _ _
theorem s2_par : (S2 2).parent = 1 := by
  unfold S2
  rw [add_par, if_pos ⟨rfl, by rw [s1_2]; rfl⟩]
theorem s2_links : links S2 2 = 1 := by
  unfold S2
  rw [links_add (by decide), if_pos rfl]
  have : links S1 2 = 0 := links_two (m := 493) (o := 0) (g := 0) (n := sN) rfl 2
  rw [this]
theorem isI_2 {t : T} (h : (t 2).is = true) : isI t 2 = true := by
  unfold isI; rw [show (2 : Int).toNat = 2 from rfl, h]; rfl
theorem isI_1 {t : T} (h : (t 1).is = true) : isI t 1 = true := by
  unfold isI; rw [show (1 : Int).toNat = 1 from rfl, h]; rfl
theorem s2_is2 : (S2 2).is = true := by rw [s2_is, s1_2]; rfl
theorem s2_k2 : (S2 2).kind = 1 := by rw [s2_kind, s1_2]; rfl
theorem s_look : lookP S2 2 [46, 46] = (1, true) := by
  have hd : isD S2 2 = true := by unfold isD; rw [isI_2 s2_is2, show (2 : Int).toNat = 2 from rfl, s2_k2]; rfl
  unfold lookP
  rw [if_pos hd, if_neg (by decide), if_pos rfl, show (2 : Int).toNat = 2 from rfl, s2_par]
theorem s_enter2 : enterP S2 2 [98] 2 = (S2, 12) := by
  unfold enterP
  have he : (S2 2).ents = [] := by rw [s2_ents, if_neg (by decide), s1_2]; rfl
  rw [if_pos ⟨isI_2 s2_is2, isI_2 s2_is2⟩, show (2 : Int).toNat = 2 from rfl, if_pos s2_k2, if_pos (by decide), he, if_neg (show ¬ (findE [] [98]).isSome = true from Bool.false_ne_true), if_pos (.inr (.inl ⟨s2_k2, by rw [s2_links]; decide⟩))]
theorem s3_ents (j : Nat) : (S3 j).ents = (S2 j).ents := upd_ents S2 2 j { S2 2 with holds := 0 } rfl
theorem s3_is (j : Nat) : (S3 j).is = (S2 j).is := upd_is S2 2 j { S2 2 with holds := 0 } rfl
theorem s3_kind (j : Nat) : (S3 j).kind = (S2 j).kind := upd_kind S2 2 j { S2 2 with holds := 0 } rfl
theorem s3_links (x : Nat) : links S3 x = links S2 x := links_upd_same S2 2 { S2 2 with holds := 0 } x rfl
theorem s2_only {i : Nat} (h : (S2 i).is = true) : i = 1 ∨ i = 2 := by
  rw [s2_is] at h
  by_cases e1 : i = 1
  · exact .inl e1
  · by_cases e2 : i = 2
    · exact .inr e2
    · have : S1 i = noN := two_o _ _ _ _ e1 e2
      rw [this] at h; cases h
theorem s3_normal : Normal S3 := by
  rintro i ⟨h1, h2, h3, h4, h5⟩
  rw [s3_is] at h3
  rw [s3_links] at h5
  rcases s2_only h3 with e | e
  · omega
  · rw [e, s2_links] at h5; cases h5
theorem s2_holds : (S2 2).holds = 1 := by
  unfold S2
  rw [add_holds, s1_2]; rfl
theorem s_drop : dropP S2 2 = (S3, true) := by
  unfold dropP
  rw [show (2 : Int).toNat = 2 from rfl, if_pos ⟨isI_2 s2_is2, by rw [s2_holds]; decide⟩]
  have : (S2 2).holds - 1 = 0 := by rw [s2_holds]
  rw [this]
  exact congrArg (·, true) (goneP_of_normal s3_normal)
theorem s_s3 : Sound S3 := by
  have := sound_drop s_s2 2
  rw [s_drop] at this
  exact this
theorem stat_yes {t : T} {i : Int} (h : isI t i = true) : ∃ a, statP t i = (a, true) := ⟨_, by unfold statP; rw [if_pos h]⟩
theorem stat_no {t : T} {i : Int} (h : isI t i = false) : statP t i = (noInf, false) := by unfold statP; rw [h, if_neg Bool.false_ne_true]
theorem s3_ents1 : findE (S3 1).ents [97] = some 2 := by rw [s3_ents, s2_ents, if_pos rfl]; rfl
theorem s_remove : removeP S3 1 [97] = (S4, 0) := by
  have h1 : (S3 1).is = true := by rw [s3_is, s2_is, s1_1]; rfl
  have hk : (S3 1).kind = 1 := by rw [s3_kind, s2_kind, s1_1]; rfl
  have he : (S3 2).ents = [] := by rw [s3_ents, s2_ents, if_neg (by decide), s1_2]; rfl
  unfold removeP
  rw [if_pos (isI_1 h1), show (1 : Int).toNat = 1 from rfl, if_pos hk, s3_ents1]
  dsimp only
  rw [if_neg (fun h => h he)]
  rfl
theorem s_s4 : Sound S4 := by
  have := sound_remove s_s3 1 [97]
  rw [s_remove] at this
  exact this
theorem s4_none : isI S4 2 = false := by
  have h : (S4 2).is = false := by
    refine gone_del ⟨by decide, by decide, ?_, ?_, ?_⟩
    · rw [rem_is, s3_is]; exact s2_is2
    · rw [rem_holds]; rfl
    · have := links_rem (t := S3) (d := 1) (n := [97]) (x := 2) (by decide) s3_ents1 2
      rw [if_pos rfl, s3_links, s2_links] at this
      omega
  unfold isI
  rw [show (2 : Int).toNat = 2 from rfl, h, Bool.and_false]
theorem s2_bound (k : Nat) : (S2 k).holds ≤ 1000000 := by
  by_cases h : (S2 k).is = true
  · rcases s2_only h with e | e
    · rw [e]; unfold S2; rw [add_holds, s1_1]; decide
    · rw [e, s2_holds]; decide
  · rw [s_s2.sd.none_ k (by simpa using h)]; decide
set_option maxHeartbeats 2000000 in
set_option maxRecDepth 100000 in
theorem shown_any (w : World) : Calls Try.prog 6 #[] w fun e w' => e = .returned (.bool true) ∧ Below w.heap.size w w' := by
  obtain ⟨i3, hi3⟩ := stat_yes (isI_2 (t := S3) (by rw [s3_is]; exact s2_is2))
  go_enter Try.func6, Try.ntmps6
  go_wp2_with (first
    | (go_at_call 7; refine (ps_new (Below.refl _ _) 493 0 0 (by unfold wfI; omega) (by decide)).mono ?_; rintro e w1 ⟨A, rfl, p1⟩)
    | (go_at_call 24; refine (ps_make_at p1 s_sd0.sd 1 448 5 6 0 (by unfold wfI; omega) s_make (z := 2) (cz := 0) rfl rfl).mono ?_; rintro e w2 ⟨rfl, p2⟩)
    | (go_at_call 25; refine (ps_enter_at p3 s_s2.sd 2 2 ⟨#[98]⟩ (by decide) s_enter2 (cz := 12) rfl).mono ?_; rintro e w4 ⟨rfl, p4⟩)
    | (go_at_call 25; refine (ps_enter_at p2 s_s1.sd 1 2 ⟨#[97]⟩ (by decide) s_enter (cz := 0) rfl).mono ?_; rintro e w3 ⟨rfl, p3⟩)
    | (go_at_call 11; refine (ps_look_at p3 s_s2.sd 2 ⟨#[46, 46]⟩ (by decide) s_look (z := 1) rfl).mono ?_; rintro e w' ⟨rfl, rfl⟩)
    | (go_at_call 26; refine (ps_drop_at p4 s_s2 2 s2_bound s_drop).mono ?_; rintro e w5 ⟨rfl, p5⟩)
    | (go_at_call 13; refine (ps_stat_at (p7.alloc _) s_s4.sd 2 (stat_no s4_none)).mono ?_; rintro e w8 ⟨rfl, p8, b8⟩)
    | (go_at_call 13; refine (ps_stat_at p7 s_s4.sd 2 (stat_no s4_none)).mono ?_; rintro e w8 ⟨rfl, p8, b8⟩)
    | (go_at_call 13; refine (ps_stat_at p5 s_s3.sd 2 hi3).mono ?_; rintro e w6 ⟨rfl, p6, b6⟩)
    | (go_at_call 27; refine (ps_remove_at (p6.alloc _) s_s3 1 ⟨#[97]⟩ (by decide) s_remove (cz := 0) rfl).mono ?_; rintro e w7 ⟨rfl, p7⟩))
  go_ret
  exact ⟨rfl, p8.below.alloc p8.below.size _⟩
end Go.Proofs.Ytflncolmehmaaaa
