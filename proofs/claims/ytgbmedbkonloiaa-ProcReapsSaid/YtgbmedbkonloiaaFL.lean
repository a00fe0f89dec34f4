/- The document's table in memory; its small calls. -/
import Derived.Test.YtgbmedbkonloiaaFK
namespace Go.Proofs.Ytgbmedbkonloiaa
open Go.RowKit
set_option linter.unusedVariables false
set_option linter.unusedSimpArgs false
section
variable {W W' : World} {B n size : Nat} {e : TypeId} {v : Value} {xs : List Value}
theorem ownG_type (h : W.ownsRow B e size v n xs) {k : Nat} (hk : v.ownBlock = some k) : B ≤ k ∧ k < W.heap.size ∧ ∃ cur fz, W.heap[k]? = some (.cells cur e fz) := by
  rcases h.2 with ⟨rfl, _⟩ | ⟨g, cap, cur, rfl, hb, hg, _⟩
  · simp [Value.ownBlock] at hk
  · simp [Value.ownBlock] at hk
    subst hk
    exact ⟨hb, heap_lt hg, cur, _, hg⟩
theorem ownG_fr {S : Nat → Prop} (h : W.ownsRow B e size v n xs) (f : Fr S W W') (hs : ∀ k, v.ownBlock = some k → ¬ S k) : W'.ownsRow B e size v n xs := by
  refine ⟨h.1, ?_⟩
  rcases h.2 with hn | ⟨g, cap, cur, rfl, hb, hg, rest⟩
  · exact .inl hn
  · exact .inr ⟨g, cap, cur, rfl, hb, (f.block g (heap_lt hg) (hs g rfl)).trans hg, rest⟩
theorem ownG_form (h : W.ownsRow B e size v n xs) : ∃ ao cap, v = .slice ao n cap ∧ n ≤ cap ∧ cap ≤ maxLen := by
  rcases h.2 with ⟨rfl, rfl⟩ | ⟨g, cap, cur, rfl, _, _, hc, hm, _⟩
  · exact ⟨_, _, rfl, Nat.le_refl _, Nat.zero_le _⟩
  · exact ⟨_, _, rfl, hc, hm⟩
theorem ownG_none (W : World) (B : Nat) (e : TypeId) (size : Nat) : W.ownsRow B e size (.slice none 0 0) 0 [] := World.ownsRow_nil W B e size
end
/-- the document's table: v the row of processes, u the row of users. -/
structure DR (W : World) (B D : Nat) (v u : Value) (L : List Pr) (last : Int) (us : List Int) : Prop where
  hb : W.heap[D]? = some (.cells #[v, .int .i64 last, u] 43 (0, 0))
  o : W.ownsRow B 35 7 v L.length (rowsC L)
  us : W.ownsRow B 3 1 u us.length (intC us)
  base : B ≤ D
def Bd (D : Nat) (v u : Value) (k : Nat) : Prop := k = D ∨ v.ownBlock = some k ∨ u.ownBlock = some k
section
variable {W W' : World} {B D : Nat} {v u : Value} {L : List Pr} {last : Int} {us : List Int}
theorem DR.lt (h : DR W B D v u L last us) {k : Nat} (hk : Bd D v u k) : B ≤ k ∧ k < W.heap.size := by
  rcases hk with rfl | hk | hk
  · exact ⟨h.base, heap_lt h.hb⟩
  · exact ⟨(ownG_type h.o hk).1, (ownG_type h.o hk).2.1⟩
  · exact ⟨(ownG_type h.us hk).1, (ownG_type h.us hk).2.1⟩
theorem DR.nD (h : DR W B D v u L last us) : ∀ k, v.ownBlock = some k → k ≠ D := by
  rintro k hk rfl
  obtain ⟨_, _, c, f, hc⟩ := ownG_type h.o hk
  exact types_ne hc h.hb (by decide)
theorem DR.uD (h : DR W B D v u L last us) : ∀ k, u.ownBlock = some k → k ≠ D := by
  rintro k hk rfl
  obtain ⟨_, _, c, f, hc⟩ := ownG_type h.us hk
  exact types_ne hc h.hb (by decide)
theorem DR.vu (h : DR W B D v u L last us) : ∀ k, v.ownBlock = some k → u.ownBlock ≠ some k := by
  rintro k hk h2
  obtain ⟨_, _, c, f, hc⟩ := ownG_type h.o hk
  obtain ⟨_, _, c2, f2, hc2⟩ := ownG_type h.us h2
  exact types_ne hc hc2 (by decide)
theorem DR.fr {S : Nat → Prop} (h : DR W B D v u L last us) (f : Fr S W W') (hs : ∀ k, Bd D v u k → ¬ S k) : DR W' B D v u L last us :=
  ⟨(f.block D (heap_lt h.hb) (hs D (.inl rfl))).trans h.hb, ownG_fr h.o f fun k hk => hs k (.inr (.inl hk)), ownG_fr h.us f fun k hk => hs k (.inr (.inr hk)), h.base⟩
theorem DR.cell (h : DR W B D v u L last us) : W.cell? ⟨D, 0, none⟩ = some v ∧ W.cell? ⟨D, 1, none⟩ = some (.int .i64 last) ∧ W.cell? ⟨D, 2, none⟩ = some u := by
  refine ⟨?_, ?_, ?_⟩ <;> rw [Lib.cell_of_heap h.hb] <;> rfl
theorem DR.frozen (h : DR W B D v u L last us) (o : Nat) : W.frozen? ⟨D, o, none⟩ = false := Lib.frozen_of_heap h.hb o
theorem DR.sLast (h : DR W B D v u L last us) (l : Int) : DR (W.setCell ⟨D, 1, none⟩ (.int .i64 l)) B D v u L l us :=
  ⟨heap_set h.hb _ _, ownG_fr h.o (Fr.one _ _ _ _) h.nD, ownG_fr h.us (Fr.one _ _ _ _) h.uD, h.base⟩
/-- a new row of processes. -/
theorem DR.a0 (h : DR W B D v u L last us) {v' : Value} {L' : List Pr} (g : W.grownBy W' v.ownBlock) (h0 : W'.ownsRow B 35 7 v' L'.length (rowsC L')) (hv : v'.ownBlock = v.ownBlock ∨ ∃ k, v'.ownBlock = some k ∧ W.heap.size ≤ k) :
    DR (W'.setCell ⟨D, 0, none⟩ v') B D v' u L' last us ∧ Fr (Bd D v u) W (W'.setCell ⟨D, 0, none⟩ v') ∧ (∀ k, Bd D v' u k → Bd D v u k ∨ W.heap.size ≤ k) := by
  have f := Fr.grown g
  have hT : W'.heap[D]? = _ := (f.block D (heap_lt h.hb) (fun hk => h.nD D hk rfl)).trans h.hb
  have hU := ownG_fr h.us f (fun k hk he => h.vu k he hk)
  refine ⟨⟨heap_set hT _ _, ownG_fr h0 (Fr.one _ _ _ _) (by
    rintro k hk rfl
    obtain ⟨_, _, c, f, hc⟩ := ownG_type h0 hk
    exact types_ne hc hT (by decide)), ownG_fr hU (Fr.one _ _ _ _) h.uD, h.base⟩, (f.mono fun k _ hk => .inr (.inl hk)).setCell (p := ⟨D, 0, none⟩) (.inl (.inl rfl)) _, ?_⟩
  rintro k (rfl | hk | hk)
  · exact .inl (.inl rfl)
  · rcases hv with hv | ⟨j, hv, hj⟩
    · exact .inl (.inr (.inl (hv ▸ hk)))
    · rw [hv] at hk; cases hk; exact .inr hj
  · exact .inl (.inr (.inr hk))
/-- a user more. -/
theorem DR.a2 (h : DR W B D v u L last us) {u' : Value} {us' : List Int} (g : W.grownBy W' u.ownBlock) (h0 : W'.ownsRow B 3 1 u' us'.length (intC us')) (hv : u'.ownBlock = u.ownBlock ∨ ∃ k, u'.ownBlock = some k ∧ W.heap.size ≤ k) :
    DR (W'.setCell ⟨D, 2, none⟩ u') B D v u' L last us' ∧ Fr (Bd D v u) W (W'.setCell ⟨D, 2, none⟩ u') ∧ (∀ k, Bd D v u' k → Bd D v u k ∨ W.heap.size ≤ k) := by
  have f := Fr.grown g
  have hT : W'.heap[D]? = _ := (f.block D (heap_lt h.hb) (fun hk => h.uD D hk rfl)).trans h.hb
  have hV := ownG_fr h.o f (fun k hk he => h.vu k hk he)
  refine ⟨⟨heap_set hT _ _, ownG_fr hV (Fr.one _ _ _ _) h.nD, ownG_fr h0 (Fr.one _ _ _ _) (by
    rintro k hk rfl
    obtain ⟨_, _, c, f, hc⟩ := ownG_type h0 hk
    exact types_ne hc hT (by decide)), h.base⟩, (f.mono fun k _ hk => .inr (.inr hk)).setCell (p := ⟨D, 2, none⟩) (.inl (.inl rfl)) _, ?_⟩
  rintro k (rfl | hk | hk)
  · exact .inl (.inl rfl)
  · exact .inl (.inr (.inl hk))
  · rcases hv with hv | ⟨j, hv, hj⟩
    · exact .inl (.inr (.inr (hv ▸ hk)))
    · rw [hv] at hk; cases hk; exact .inr hj
/-- the rows' cells. -/
theorem DR.form (h : DR W B D v u L last us) (h0 : 0 < L.length) : ∃ g cap, v = .slice (some ⟨g, 0, none⟩) L.length cap ∧ g < W.heap.size ∧ L.length ≤ cap := by
  obtain ⟨g, cap, hv, _, h2⟩ := h.o.form h0
  obtain ⟨_, _, e, hc, _⟩ := ownG_form h.o
  rw [hv] at e; cases e
  exact ⟨g, cap, hv, h2, hc⟩
theorem DR.cellP {g cap : Nat} (h : DR W B D (.slice (some ⟨g, 0, none⟩) L.length cap) u L last us) {k : Nat} {p : Pr} (hp : L[k]? = some p) :
    W.cell? ⟨g, k * 7, none⟩ = some (.int .i64 p.pid) ∧ W.cell? ⟨g, k * 7 + 1, none⟩ = some (.int .i64 p.parent) ∧ W.cell? ⟨g, k * 7 + 2, none⟩ = some (.int .i64 p.user) ∧ W.cell? ⟨g, k * 7 + 3, none⟩ = some (.int .i64 p.session) ∧
      W.cell? ⟨g, k * 7 + 4, none⟩ = some (.int .i64 p.status) ∧ W.cell? ⟨g, k * 7 + 5, none⟩ = some (.bool p.dead) ∧ W.cell? ⟨g, k * 7 + 6, none⟩ = some (.bool p.reserve) := by
  have := row_cells h.o hp
  exact ⟨this 0 _ rfl, this 1 _ rfl, this 2 _ rfl, this 3 _ rfl, this 4 _ rfl, this 5 _ rfl, this 6 _ rfl⟩
theorem DR.frozenP {g cap : Nat} (h : DR W B D (.slice (some ⟨g, 0, none⟩) L.length cap) u L last us) (o : Nat) : W.frozen? ⟨g, o, none⟩ = false := by
  rcases h.o.2 with ⟨e, _⟩ | ⟨g', cap', cur, e, _, hg, _⟩
  · cases e
  · cases e
    exact Lib.frozen_of_heap hg o
end
/-- where a process stands. -/
def posP (L : List Pr) (x : Int) : Option Nat := L.findIdx? (isP x)
theorem pos_some {L : List Pr} {x : Int} {k : Nat} (h : posP L x = some k) : ∃ p, L[k]? = some p ∧ atP L x = some p ∧ p.pid = x ∧ k < L.length := by
  unfold posP at h
  rw [List.findIdx?_eq_some_iff_getElem] at h
  obtain ⟨hk, h1, h2⟩ := h
  have hp : L[k]? = some L[k] := List.getElem?_eq_getElem hk
  refine ⟨L[k], hp, ?_, by simpa [isP] using h1, hk⟩
  unfold atP
  refine find_at (k := k) (fun q hq => ?_) hp h1
  obtain ⟨j, hj, e⟩ := List.mem_take_iff_getElem.1 hq
  have := h2 j (by omega)
  rw [← e]
  simpa using this
theorem pos_none {L : List Pr} {x : Int} (h : posP L x = none) : atP L x = none := by
  unfold posP at h
  rw [List.findIdx?_eq_none_iff] at h
  unfold atP
  rw [List.find?_eq_none]
  intro p hp
  rw [h p hp]; decide
theorem pos_at {L : List Pr} {k : Nat} {p : Pr} {x : Int} (h : ∀ q ∈ L.take k, isP x q = false) (hp : L[k]? = some p) (hf : isP x p = true) : posP L x = some k := by
  have hk : k < L.length := (List.getElem?_eq_some_iff.1 hp).1
  have he := (List.getElem?_eq_some_iff.1 hp).2
  unfold posP
  rw [List.findIdx?_eq_some_iff_getElem]
  refine ⟨hk, by rw [he]; exact hf, fun j hj => ?_⟩
  have := h L[j] (List.mem_take_iff_getElem.2 ⟨j, by omega, rfl⟩)
  rw [this]; decide
def posV (L : List Pr) (x : Int) : Int := match posP L x with | some k => k | none => -1
def lposV (L : List Pr) (x : Int) : Int := match liveP L x with | some _ => posV L x | none => -1
section
variable {W W' : World} {B D : Nat} {v u : Value} {L : List Pr} {last : Int} {us : List Int}
def atRel (W : World) (L : List Pr) (x : Int) (iv : Value) (wr : World) : Prop := ∃ k : Nat, iv = .int .i64 k ∧ k ≤ L.length ∧ (∀ q ∈ L.take k, isP x q = false) ∧ wr = W
set_option maxHeartbeats 1000000 in
theorem rat_any (x : Int) (h : DR W B D v u L last us) (hl : L.length ≤ 1000000) :
    Calls Try.prog 28 #[.pointer (some ⟨D, 0, none⟩), .int .i64 x] W fun r w' => r = .returned (.int .i64 (posV L x)) ∧ W = w' := by
  obtain ⟨c0, -, -⟩ := h.cell
  obtain ⟨ao, cap, hv, hcap, hmax⟩ := ownG_form h.o
  subst hv
  have H := Lib.hid h
  clear h
  go_enter Try.func28, Try.ntmps28
  go_wp2
  go_loopw [5] (fun iv wr => atRel W L x iv wr) (fun iv _ => L.length - (Lib.intOf iv).toNat)
  case atStart => exact ⟨0, rfl, Nat.zero_le _, by intro q hq; simp at hq, rfl⟩
  case round =>
    obtain ⟨k, rfl, hk, hno, rfl⟩ := hrel
    have HNO := Lib.hid hno
    clear hno
    by_cases hlt : k < L.length
    · have hp : L[k]? = some (L[k]'hlt) := List.getElem?_eq_getElem _
      generalize L[k]'hlt = p at hp
      obtain ⟨g, cap', hv, hg, hc2⟩ := H.out.form (by omega)
      cases hv
      obtain ⟨e0, -⟩ := H.out.cellP hp
      have i1 : (0 : Int) ≤ (k : Int) := by omega
      have i2 : (k : Int) < (L.length : Int) := by omega
      cases hx : (p.pid == x)
      · have HT2 := Lib.hid (take_more HNO.out hp (show isP x p = false from hx))
        clear hp
        go_wp2
        go_roundw
        case rel => exact ⟨k + 1, by go_num, by omega, HT2.out, rfl⟩
        case measure => simp [Lib.intOf]; omega
      · have HR := Lib.hid (show posV L x = k by unfold posV; rw [pos_at HNO.out hp (show isP x p = true from hx)])
        clear hp
        go_wp2
        go_ret
        exact ⟨ret_int HR.out.symm, rfl⟩
    · have hkl : k = L.length := by omega
      have hn := HNO.out
      rw [hkl, List.take_length] at hn
      have HR := Lib.hid (show posV L x = -1 by unfold posV posP; rw [List.findIdx?_eq_none_iff.2 hn])
      have i2 : ¬ ((k : Int) < (L.length : Int)) := by omega
      clear hn hkl
      go_wp2
      go_ret
      exact ⟨ret_int HR.out.symm, rfl⟩
end
end Go.Proofs.Ytgbmedbkonloiaa
