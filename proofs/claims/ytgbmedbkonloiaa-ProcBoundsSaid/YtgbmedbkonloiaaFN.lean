/- The document's room, learn, Get, Leads, New, Becomes, Exit. -/
import Derived.Test.YtgbmedbkonloiaaFM
namespace Go.Proofs.Ytgbmedbkonloiaa
open Go.RowKit
set_option linter.unusedVariables false
set_option linter.unusedSimpArgs false
section
variable {W W' : World} {B D : Nat} {v u : Value} {L : List Pr} {last : Int} {us : List Int} {R : Nat → Prop} {s : TB}
theorem DR.set2 {g cap n : Nat} (h : DR W B D (.slice (some ⟨g, 0, none⟩) n cap) u L last us) (hn : L.length = n) {k : Nat} {p p' : Pr} (hp : L[k]? = some p) (j : Nat) (hj : j < 7) (x : Value) (e : prC p' = (prC p).set j x) :
    DR (W.setCell ⟨g, k * 7 + j, none⟩ x) B D (.slice (some ⟨g, 0, none⟩) n cap) u (L.set k p') last us := by
  subst hn
  have := h.set1 hp j hj x e
  rw [List.length_set] at this
  exact this
set_option maxHeartbeats 1000000 in
theorem rroom_any (x : Int) (h : DR W B D v u s.L s.last s.users) (h8 : s.users.length ≤ 8) (hl : s.L.length ≤ 1000000) :
    Calls Try.prog 36 #[.pointer (some ⟨D, 0, none⟩), .int .i64 x] W fun r w' => r = .returned (.int .i64 (roomP s x)) ∧ W = w' := by
  obtain ⟨-, -, c2⟩ := h.cell
  obtain ⟨ao, cap, hv, -⟩ := ownG_form h.us
  have HK := Lib.hid (rknown_any x h h8)
  have HC := Lib.hid (rcount_any x h hl)
  subst hv
  unfold roomP
  clear h hl
  generalize s.users.length = m at *
  generalize cntP s.L x = c at *
  cases hk : knownP s.users x
  · rw [hk] at HK
    by_cases h9 : 8 ≤ m
    · rw [if_pos ⟨rfl, h9⟩]
      have i1 : (8 : Int) ≤ m := by omega
      clear hk HC
      go_enter Try.func36, Try.ntmps36
      go_wp2_with (go_at_call 43; refine HK.out.mono ?_; rintro e w' ⟨rfl, rfl⟩)
      go_ret
      exact ⟨rfl, rfl⟩
    · rw [if_neg (fun e => h9 e.2)]
      have i1 : ¬ (8 : Int) ≤ m := by omega
      by_cases h6 : 6 ≤ c
      · rw [if_pos h6]
        have i2 : (6 : Int) ≤ c := by omega
        clear hk h6
        go_enter Try.func36, Try.ntmps36
        go_wp2_with (first
          | (go_at_call 43; refine HK.out.mono ?_; rintro e w' ⟨rfl, rfl⟩)
          | (go_at_call 14; refine HC.out.mono ?_; rintro e w' ⟨rfl, rfl⟩))
        go_ret
        exact ⟨rfl, rfl⟩
      · rw [if_neg h6]
        have i2 : ¬ (6 : Int) ≤ c := by omega
        clear hk h6
        go_enter Try.func36, Try.ntmps36
        go_wp2_with (first
          | (go_at_call 43; refine HK.out.mono ?_; rintro e w' ⟨rfl, rfl⟩)
          | (go_at_call 14; refine HC.out.mono ?_; rintro e w' ⟨rfl, rfl⟩))
        go_ret
        exact ⟨rfl, rfl⟩
  · rw [hk] at HK
    rw [if_neg (fun e => by cases e.1)]
    by_cases h6 : 6 ≤ c
    · rw [if_pos h6]
      have i2 : (6 : Int) ≤ c := by omega
      clear hk h6
      go_enter Try.func36, Try.ntmps36
      go_wp2_with (first
        | (go_at_call 43; refine HK.out.mono ?_; rintro e w' ⟨rfl, rfl⟩)
        | (go_at_call 14; refine HC.out.mono ?_; rintro e w' ⟨rfl, rfl⟩))
      go_ret
      exact ⟨rfl, rfl⟩
    · rw [if_neg h6]
      have i2 : ¬ (6 : Int) ≤ c := by omega
      clear hk h6
      go_enter Try.func36, Try.ntmps36
      go_wp2_with (first
        | (go_at_call 43; refine HK.out.mono ?_; rintro e w' ⟨rfl, rfl⟩)
        | (go_at_call 14; refine HC.out.mono ?_; rintro e w' ⟨rfl, rfl⟩))
      go_ret
      exact ⟨rfl, rfl⟩
set_option maxRecDepth 100000 in
set_option maxHeartbeats 1000000 in
theorem rlearn_any (x : Int) (h : DR W B D v u L last us) (h8 : us.length ≤ 8) :
    Calls Try.prog 37 #[.pointer (some ⟨D, 0, none⟩), .int .i64 x] W fun r w' => r = .returned (.tuple #[]) ∧ ∃ u', DR w' B D v u' L last (learnU us x) ∧ Step (Bd D v u) (Bd D v u') W w' := by
  have HK := Lib.hid (rknown_any x h h8)
  have H := Lib.hid h
  unfold learnU
  cases hk : knownP us x
  · rw [hk] at HK
    rw [if_neg (by decide)]
    obtain ⟨-, -, c2⟩ := h.cell
    have f2 := h.frozen 2
    obtain ⟨ao, cap, hv, -⟩ := ownG_form h.us
    subst hv
    obtain ⟨i0, hi0, hz0, hz1, hz2⟩ := info_int
    have hBW : B ≤ W.heap.size := Nat.le_trans h.base (Nat.le_of_lt (heap_lt h.hb))
    have HA := Lib.hid (h.fr (S := fun _ => False) ((Fr.refl _ W).alloc (.cells #[.int .i64 x] 3)) (fun _ _ => id))
    have hDlt := heap_lt h.hb
    clear h hk
    go_enter Try.func37, Try.ntmps37
    go_wp2_with (first
      | (go_at_call 43; refine HK.out.mono ?_; rintro e w' ⟨rfl, rfl⟩)
      | (refine wpList_append_own_at _ rfl _ _ 41 rfl B 3 i0 (.int .i64 0) 1 8 Try.underlying41 hi0 hz0 hz1 hz2 rfl (by decide) (.slice ao us.length cap) us.length (intC us) rfl HA.out.us ⟨W.heap.size, 0, none⟩ 1 1 [.int .i64 x] rfl rfl (cell_one_new W _ _) (by intro x hx; simp at hx; subst hx; rfl) (by unfold maxLen; omega) (by omega) (by simp; omega) ?_
         intro v' w3 hown hgrow hnil hat
         obtain ⟨g', cap2, rfl, -, -⟩ := hown.form (by omega)
         have fD := (Fr.grown hgrow).block D (heap_lt HA.out.hb) (fun hk => HA.out.uD D hk rfl)
         have g2 := (World.cell?_of_block (a := ⟨D, 2, none⟩) fD).trans HA.out.cell.2.2
         have e2 := (World.frozen?_of_block (a := ⟨D, 2, none⟩) fD).trans (HA.out.frozen 2)
         obtain ⟨k1, k2, k3⟩ := HA.out.a2 hgrow (ints_more us x hown) (hat.imp id fun h => ⟨_, h, by simp⟩)
         have K1 := Lib.hid k1
         have K2 := Lib.hid ((((Fr.refl (Bd D v (.slice ao us.length cap)) W).alloc (.cells #[.int .i64 x] 3))).trans k2)
         have K3 := Lib.hid (fun k hk => (k3 k hk).imp id (fun (h : _ ≤ k) => (by rw [World.size_alloc] at h; omega : W.heap.size ≤ k)))
         clear k1 k2 k3 hown hgrow hnil hat fD))
    refine bodyPost_end (results_none rfl _ _ _) rfl ?_
    exact ⟨rfl, _, K1.out, K2.out, K3.out⟩
  · rw [hk] at HK
    rw [if_pos rfl]
    clear h hk
    go_enter Try.func37, Try.ntmps37
    go_wp2_with (go_at_call 43; refine HK.out.mono ?_; rintro e w' ⟨rfl, rfl⟩)
    refine bodyPost_end (results_none rfl _ _ _) rfl ?_
    exact ⟨rfl, u, H.out, Step.refl _ _⟩
set_option maxHeartbeats 1000000 in
theorem rget_any (x : Int) (h : DR W B D v u L last us) (hl : L.length ≤ 1000000) :
    Calls Try.prog 12 #[.pointer (some ⟨D, 0, none⟩), .int .i64 x] W fun r w' => r = .returned (getV L x) ∧ Fr (fun _ => False) W w' := by
  have hA := fun o => rat_any x (h.fr (S := fun _ => False) ((Fr.refl _ W).alloc o) (fun _ _ => id)) hl
  have hDlt := heap_lt h.hb
  unfold getV getP
  cases hp : posP L x with
  | none =>
    rw [pos_none hp]
    rw [show posV L x = -1 by unfold posV; rw [hp]] at hA
    have HA := Lib.hid hA
    clear h hp hA
    go_enter Try.func12, Try.ntmps12
    go_wp2_with (go_at_call 28; refine (HA.out _).mono ?_; rintro e w' ⟨rfl, rfl⟩)
    exact bodyPost_ret (resPr 35 aggR sizeR Try.f12 4 5 rfl (x := zeroPr) (lay_pr W _ zeroPr) _ rfl rfl) rfl ⟨rfl, (Fr.refl _ _).alloc _⟩
  | some k =>
    obtain ⟨p, hk, hat, hx, hlt⟩ := pos_some hp
    rw [hat]
    rw [show posV L x = (k : Nat) by unfold posV; rw [hp]] at hA
    obtain ⟨g, cap, rfl, hg, hc⟩ := h.form (by omega)
    obtain ⟨c0, -, -⟩ := h.cell
    obtain ⟨e0, e1, e2, e3, e4, e5, e6⟩ := h.cellP hk
    have i1 : (0 : Int) ≤ (k : Int) := by omega
    have i2 : (k : Int) < (L.length : Int) := by omega
    have i3 : ¬ (k : Int) < 0 := by omega
    have HA := Lib.hid hA
    clear h hp hk hat hx hA
    go_enter Try.func12, Try.ntmps12
    go_wp2_with (go_at_call 28; refine (HA.out _).mono ?_; rintro e w' ⟨rfl, rfl⟩)
    exact bodyPost_ret (resPr 35 aggR sizeR Try.f12 4 5 rfl (x := p) (lay_pr W _ p) _ rfl rfl) rfl ⟨rfl, (Fr.refl _ _).alloc _⟩
theorem modP_set2 (ha : L.Pairwise fun p q => p.pid < q.pid) {k : Nat} {p : Pr} {a : Int} (hp : L[k]? = some p) (hx : p.pid = a) (f : Pr → Pr) : modP a f L = L.set k (f p) := by
  subst hx
  exact modP_set ha hp f
theorem lpos_none {x : Int} (h : liveP L x = none) : lposV L x = -1 := by unfold lposV; rw [h]
set_option maxHeartbeats 1000000 in
theorem rleads_any (a : Int) (h : DAt W B D R s) (hs : Sd s) (hl : s.L.length ≤ 1000000) :
    Calls Try.prog 25 #[.pointer (some ⟨D, 0, none⟩), .int .i64 a] W fun r w' => r = .returned (.int .i64 (leadE s a)) ∧ DDoes W B D R (leadT s a) w' := by
  have HT := Lib.hid h
  obtain ⟨v, u, h1, hR⟩ := h
  have hA := rlive_any a h1 hl
  unfold leadE leadT
  cases hlv : liveP s.L a with
  | none =>
    simp only
    rw [lpos_none hlv] at hA
    clear h1 hlv
    go_enter Try.func25, Try.ntmps25
    go_wp2_with (go_at_call 35; refine hA.mono ?_; rintro e w' ⟨rfl, rfl⟩)
    go_ret
    exact ⟨rfl, HT.out.does⟩
  | some p =>
    simp only
    obtain ⟨k, hk1, hk, hx, hlt⟩ := pos_live hlv
    rw [hk1] at hA
    obtain ⟨g, cap, rfl, hg, hc⟩ := h1.form (by omega)
    obtain ⟨c0, -, -⟩ := h1.cell
    obtain ⟨-, -, -, e3, -⟩ := h1.cellP hk
    have f3 := h1.frozenP (k * 7 + 3)
    have hM := modP_set2 hs.asc hk hx (fun q => { q with session := a })
    rw [hM]
    have H2 := Lib.hid (h1.set2 rfl hk (p' := { p with session := a }) 3 (by decide) (.int .i64 a) rfl)
    have i1 : (0 : Int) ≤ (k : Int) := by omega
    have i2 : (k : Int) < (s.L.length : Int) := by omega
    have i3 : ¬ (k : Int) < 0 := by omega
    clear h1 hlv hk hk1 hM
    go_enter Try.func25, Try.ntmps25
    go_wp2_with (go_at_call 35; refine hA.mono ?_; rintro e w' ⟨rfl, rfl⟩)
    go_ret
    refine ⟨rfl, _, ⟨_, _, H2.out, rfl⟩, ?_⟩
    rw [hR]
    exact ⟨(Fr.one _ _ _ _).mono fun k _ hk => .inr (.inl (by rw [hk]; rfl)), fun k hk => .inl hk⟩
set_option maxRecDepth 100000 in
theorem rnew_any (W : World) :
    Calls Try.prog 9 #[] W fun r w' => ∃ D R, r = .returned (.pointer (some ⟨D, 0, none⟩)) ∧ DAt w' W.heap.size D R new0 ∧ Fr (fun _ => False) W w' := by
  have f1 : Fr (fun _ => False) (W.alloc (.cells (prC ⟨1, 0, 0, 1, 0, false, true⟩).toArray 35)) ((W.alloc (.cells (prC ⟨1, 0, 0, 1, 0, false, true⟩).toArray 35)).alloc (.cells #[.slice (some ⟨W.heap.size, 0, none⟩) 1 1, .int .i64 1, .slice none 0 0] 43)) := (Fr.refl _ _).alloc _
  have ho : (W.alloc (.cells (prC ⟨1, 0, 0, 1, 0, false, true⟩).toArray 35)).ownsRow W.heap.size 35 7 (.slice (some ⟨W.heap.size, 0, none⟩) 1 1) 1 (prC ⟨1, 0, 0, 1, 0, false, true⟩) :=
    ⟨rfl, .inr ⟨W.heap.size, 1, _, rfl, Nat.le_refl _, heap_alloc_new W _, Nat.le_refl _, by decide, rfl, rfl⟩⟩
  have hP : DR ((W.alloc (.cells (prC ⟨1, 0, 0, 1, 0, false, true⟩).toArray 35)).alloc (.cells #[.slice (some ⟨W.heap.size, 0, none⟩) 1 1, .int .i64 1, .slice none 0 0] 43)) W.heap.size (W.alloc (.cells (prC ⟨1, 0, 0, 1, 0, false, true⟩).toArray 35)).heap.size (.slice (some ⟨W.heap.size, 0, none⟩) 1 1) (.slice none 0 0) new0.L new0.last new0.users :=
    ⟨heap_alloc_new _ _, ownG_fr ho f1 fun _ _ => id, ownG_none _ _ _ _, by simp⟩
  have HP := Lib.hid hP
  have HF := Lib.hid (((Fr.refl (fun _ => False) W).alloc (.cells (prC ⟨1, 0, 0, 1, 0, false, true⟩).toArray 35)).trans f1)
  have hs1 : (W.alloc (.cells (prC ⟨1, 0, 0, 1, 0, false, true⟩).toArray 35)).heap.size = W.heap.size + 1 := by simp
  rw [hs1] at HP
  clear f1 ho hP
  go_enter Try.func9, Try.ntmps9
  go_wp2
  go_ret
  exact ⟨_, _, rfl, ⟨_, _, HP.out, rfl⟩, HF.out⟩
end
end Go.Proofs.Ytgbmedbkonloiaa
