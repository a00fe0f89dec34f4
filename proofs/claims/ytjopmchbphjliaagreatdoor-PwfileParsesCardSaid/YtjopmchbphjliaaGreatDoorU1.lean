/- Users in memory; the closures of package pwfile; IndexFunc over users. -/
import Derived.Test.YtjopmchbphjliaaGreatDoorRows
import Derived.Test.YtjopmchbphjliaaGreatDoorB0
namespace Go.Proofs.YtjopmchbphjliaaGreatDoor
open Go.RowKit Go.Shelf

structure Usr where
  name : ByteArray
  pass : ByteArray
  id : Int
  grp : Int
  home : ByteArray
  shell : ByteArray
def noUsr : Usr := ⟨⟨#[]⟩, ⟨#[]⟩, 0, 0, ⟨#[]⟩, ⟨#[]⟩⟩
instance : Inhabited Usr := ⟨noUsr⟩
def Usr.val (u : Usr) : Value := .agg #[.string u.name, .string u.pass, .int .i64 u.id, .int .i64 u.grp, .string u.home, .string u.shell]
def Usr.cells (u : Usr) : List Value := [.string u.name, .string u.pass, .int .i64 u.id, .int .i64 u.grp, .string u.home, .string u.shell]
/-- a user's strings are no longer than strings are, its numbers are numbers. -/
def OkU (u : Usr) : Prop := u.name.size ≤ maxLen ∧ u.pass.size ≤ maxLen ∧ u.home.size ≤ maxLen ∧ u.shell.size ≤ maxLen ∧ (-9223372036854775808 ≤ u.id ∧ u.id ≤ 9223372036854775807) ∧ (-9223372036854775808 ≤ u.grp ∧ u.grp ≤ 9223372036854775807)
/-- a user's six cells. -/
def UAt (W : World) (g o : Nat) (u : Usr) : Prop :=
  W.cell? ⟨g, o, none⟩ = some (.string u.name) ∧ W.cell? ⟨g, o + 1, none⟩ = some (.string u.pass) ∧ W.cell? ⟨g, o + 2, none⟩ = some (.int .i64 u.id) ∧
  W.cell? ⟨g, o + 3, none⟩ = some (.int .i64 u.grp) ∧ W.cell? ⟨g, o + 4, none⟩ = some (.string u.home) ∧ W.cell? ⟨g, o + 5, none⟩ = some (.string u.shell)
theorem UAt.lt {W : World} {g o : Nat} {u : Usr} (h : UAt W g o u) : g < W.heap.size := cell_lt h.1
theorem UAt.below {W W' : World} {g o n : Nat} {u : Usr} (h : UAt W g o u) (hb : Below n W W') (hg : g < n) : UAt W' g o u := by
  obtain ⟨h0, h1, h2, h3, h4, h5⟩ := h
  exact ⟨(hb.cell (p := ⟨g, _, none⟩) hg).trans h0, (hb.cell (p := ⟨g, _, none⟩) hg).trans h1, (hb.cell (p := ⟨g, _, none⟩) hg).trans h2, (hb.cell (p := ⟨g, _, none⟩) hg).trans h3, (hb.cell (p := ⟨g, _, none⟩) hg).trans h4, (hb.cell (p := ⟨g, _, none⟩) hg).trans h5⟩
/-- a slice that reads as these users. -/
def InUsers (W : World) (p : Option Addr) (n : Nat) (us : List Usr) : Prop :=
  us.length = n ∧ ∀ j u, us[j]? = some u → OkU u ∧ ∃ g off, p = some ⟨g, off, none⟩ ∧ UAt W g (off + j * 6) u
theorem InUsers.below {W W' : World} {p : Option Addr} {n m : Nat} {us : List Usr} (h : InUsers W p n us) (hb : Below m W W') (hm : W.heap.size ≤ m) : InUsers W' p n us :=
  ⟨h.1, fun j u hj => by
    obtain ⟨h1, g, off, hp, hu⟩ := h.2 j u hj
    exact ⟨h1, g, off, hp, hu.below hb (Nat.lt_of_lt_of_le hu.lt hm)⟩⟩
/-- what is asked of a predicate on users: it tells q, and lays at most blocks of its own. -/
def PredU (g : Nat) (lb : Array Value) (q : Usr → Bool) (w : World) : Prop :=
  ∀ (W : World) (u : Usr), Below w.heap.size w W → Calls Tryz.prog g (#[u.val] ++ lb) W fun e w' => e = .returned (.bool (q u)) ∧ Below W.heap.size W w'
theorem PredU.older {g : Nat} {lb : Array Value} {q : Usr → Bool} {w w1 : World} (h : PredU g lb q w) (hb : Below w.heap.size w w1) : PredU g lb q w1 :=
  fun W u hW => h W u (hb.trans (hW.mono hb.size))
/-- the place of the first user of whom q holds, or -1. -/
def findI (q : Usr → Bool) : List Usr → Int
  | [] => -1
  | u :: us => if q u = true then 0 else if findI q us < 0 then -1 else findI q us + 1
theorem findI_ge (q : Usr → Bool) (us : List Usr) : -1 ≤ findI q us ∧ findI q us < us.length := by
  induction us with
  | nil => exact ⟨Int.le_refl _, by show (-1 : Int) < 0; decide⟩
  | cons u us ih =>
    unfold findI
    rw [List.length_cons]
    by_cases h : q u = true
    · rw [if_pos h]; omega
    · rw [if_neg h]
      by_cases h2 : findI q us < 0
      · rw [if_pos h2]; omega
      · rw [if_neg h2]; omega
theorem findI_hit (q : Usr → Bool) (us : List Usr) (k : Nat) (u : Usr) (hk : us[k]? = some u) (hq : q u = true) (hn : ∀ j v, j < k → us[j]? = some v → q v = false) : findI q us = k := by
  induction us generalizing k with
  | nil => simp at hk
  | cons x xs ih =>
    unfold findI
    cases k with
    | zero => simp at hk; subst hk; rw [if_pos hq]; rfl
    | succ k =>
      have h0 := hn 0 x (by omega) rfl
      rw [h0, if_neg Bool.false_ne_true, ih k (by simpa using hk) (fun j v hj hv => hn (j + 1) v (by omega) (by simpa using hv)), if_neg (by omega)]
      omega
theorem findI_miss (q : Usr → Bool) (us : List Usr) (hn : ∀ u ∈ us, q u = false) : findI q us = -1 := by
  induction us with
  | nil => rfl
  | cons x xs ih =>
    unfold findI
    rw [hn x (by simp), if_neg Bool.false_ne_true, ih (fun u hu => hn u (by simp [hu]))]; rfl
def ixRel (w : World) (q : Usr → Bool) (us : List Usr) (i : Value) (wr : World) : Prop :=
  ∃ k : Nat, k ≤ us.length ∧ i = .int .i64 k ∧ Below w.heap.size w wr ∧ ∀ j v, j < k → us[j]? = some v → q v = false
theorem ix_next {q : Usr → Bool} {us : List Usr} {k : Nat} {u : Usr} (hk : us[k]? = some u) (hq : q u = false) (h : ∀ j v, j < k → us[j]? = some v → q v = false) : ∀ j v, j < k + 1 → us[j]? = some v → q v = false := by
  intro j v hj hv
  by_cases e : j = k
  · subst e; rw [hk] at hv; cases hv; exact hq
  · exact h j v (by omega) hv
set_option maxHeartbeats 1600000 in
theorem index_any (q : Usr → Bool) (g : Nat) (lb : Array Value) (eg : ∀ args w, (callFunc g args).run Tryz.prog w = .ok (.enter g args) w) (p : Option Addr) (n cap : Nat) (us : List Usr) (w : World)
    (hin : InUsers w p n us) (hn : n ≤ maxLen) (hp : PredU g lb q w) :
    Calls Tryz.prog 33 #[.slice p n cap, .func (.func g) #[] lb] w fun e w' => e = .returned (.int .i64 (findI q us)) ∧ Below w.heap.size w w' := by
  unfold maxLen at hn
  obtain ⟨hlen, hus⟩ := hin
  subst hlen
  have Hus := Lib.hid hus
  have Hp := Lib.hid hp
  clear hus hp
  go_enter Tryz.func33, Tryz.ntmps33
  go_wp2
  go_loopw [8] (fun i wr => ixRel w q us i wr) (fun i _ => us.length - (intOf i).toNat)
  case atStart => exact ⟨0, Nat.zero_le _, rfl, Below.refl _ _, fun j v h => absurd h (Nat.not_lt_zero _)⟩
  case round =>
    obtain ⟨k, hk, rfl, hB, hno⟩ := hrel
    have Hno := Lib.hid hno
    clear hno
    by_cases hlt : k < us.length
    · have hu : us[k]? = some us[k] := List.getElem?_eq_getElem hlt
      obtain ⟨hok, b, off, hpp, hc⟩ := Hus.out k _ hu
      have hcw := hc.below hB hc.lt
      have hcall := Hp.out wr us[k] hB
      generalize us[k] = u at hu hcall hcw
      subst hpp
      obtain ⟨c0, c1, c2, c3, c4, c5⟩ := hcw
      unfold Usr.val at hcall
      have Hu := Lib.hid hu
      clear hu hc hok
      cases hq : q u
      · rw [hq] at hcall
        have Hq := Lib.hid hq
        clear hq
        go_wp2_with (go_at_fn g; refine hcall.mono ?_; rintro e w' ⟨rfl, hb'⟩)
        go_roundw
        case rel => exact ⟨k + 1, by omega, by go_num, hB.trans (hb'.mono hB.size), ix_next Hu.out Hq.out Hno.out⟩
        case measure => simp [intOf]; omega
      · rw [hq] at hcall
        have Hr := Lib.hid (findI_hit q us k u Hu.out hq Hno.out)
        clear hq
        go_wp2_with (go_at_fn g; refine hcall.mono ?_; rintro e w' ⟨rfl, hb'⟩)
        go_ret
        exact ⟨ret_int Hr.out.symm, hB.trans (hb'.mono hB.size)⟩
    · obtain rfl : k = us.length := by omega
      have Hr := Lib.hid (findI_miss q us (fun u hu => by
        obtain ⟨j, hj⟩ := List.getElem?_of_mem hu
        exact Hno.out j u (List.getElem?_eq_some_iff.1 hj).1 hj))
      go_wp2
      go_ret
      exact ⟨ret_int Hr.out.symm, hB⟩
end Go.Proofs.YtjopmchbphjliaaGreatDoor
