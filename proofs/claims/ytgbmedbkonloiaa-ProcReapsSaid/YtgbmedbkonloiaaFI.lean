/- Contract of the program's Exit: a loop over the map, in any order, that writes the processes. -/
import Derived.Test.YtgbmedbkonloiaaFH
namespace Go.Proofs.Ytgbmedbkonloiaa
open Go.RowKit Go.Maps
set_option linter.unusedVariables false
set_option linter.unusedSimpArgs false
variable {W W' : World} {B T M : Nat} {nb : Int → Nat} {v : Value} {L : List Pr} {last : Int} {us : List Int} {S : Nat → Prop} {s : TB}
def mixG (a : Int) (left : Lit → Bool) (p : Pr) : Pr := if left (.int .i64 p.pid) = true then p else orphan a p
def mix (a : Int) (left : Lit → Bool) (L : List Pr) : List Pr := L.map (mixG a left)
theorem orphan_pid (a : Int) (p : Pr) : (orphan a p).pid = p.pid := by unfold orphan; split <;> rfl
theorem mixG_pid (a : Int) (left : Lit → Bool) (p : Pr) : (mixG a left p).pid = p.pid := by unfold mixG; split; rfl; exact orphan_pid a p
theorem mix_at {a : Int} {left : Lit → Bool} {L : List Pr} {x : Int} {p : Pr} (h : atP L x = some p) (hl : left (.int .i64 x) = true) : atP (mix a left L) x = some p := by
  unfold mix
  rw [at_map (mixG_pid a left), h]
  have := (at_some h).2
  subst this
  show some (mixG a left p) = some p
  unfold mixG
  rw [if_pos hl]
theorem mix_start {a : Int} {left : Lit → Bool} {L : List Pr} (h : ∀ p ∈ L, left (.int .i64 p.pid) = true) : mix a left L = L := by
  unfold mix
  rw [List.map_congr_left (g := id) fun p hp => by unfold mixG; rw [if_pos (h p hp)]; rfl]
  simp
theorem mix_end {a : Int} {left : Lit → Bool} {L : List Pr} (h : ∀ z, left z = false) : mix a left L = L.map (orphan a) := by
  unfold mix
  exact List.map_congr_left fun p hp => by unfold mixG; rw [if_neg (by rw [h]; decide)]
theorem mix_step {a : Int} {left : Lit → Bool} {L : List Pr} {x : Int} (hl : left (.int .i64 x) = true) : mix a (fun z => left z && !z.sameKey (.int .i64 x)) L = modP x (orphan a) (mix a left L) := by
  unfold mix modP
  rw [List.map_map]
  refine List.map_congr_left fun p _ => ?_
  show mixG a _ p = if (mixG a left p).pid = x then orphan a (mixG a left p) else mixG a left p
  rw [mixG_pid]
  by_cases e : p.pid = x
  · subst e
    rw [if_pos rfl]
    unfold mixG
    rw [if_pos hl, if_neg]
    show ¬ (left (.int .i64 p.pid) && !(Lit.int .i64 p.pid).sameKey (.int .i64 p.pid)) = true
    rw [strike_same]; decide
  · rw [if_neg e]
    unfold mixG
    show (if (left (.int .i64 p.pid) && !(Lit.int .i64 p.pid).sameKey (.int .i64 x)) = true then _ else _) = _
    rw [strike_other left e]
theorem asc_mix {a : Int} {left : Lit → Bool} {L : List Pr} (h : L.Pairwise fun p q => p.pid < q.pid) : (mix a left L).Pairwise fun p q => p.pid < q.pid := asc_map (mixG_pid a left) h
theorem Bp.mix {a : Int} {left : Lit → Bool} {k : Nat} (h : Bp T M nb v (mix a left L) k) : Bp T M nb v L k := by
  rcases h with h | h | ⟨y, q, hq, e⟩ | h
  · exact .inl h
  · exact .inr (.inl h)
  · unfold Ytgbmedbkonloiaa.mix at hq
    rw [at_map (mixG_pid a left)] at hq
    cases hp : atP L y with
    | none => rw [hp] at hq; cases hq
    | some p => exact .inr (.inr (.inl ⟨y, p, hp, e⟩))
  · exact .inr (.inr (.inr h))
theorem Fr.grown2 {S : Nat → Prop} {a b c : World} {r : Nat} (h : Fr S a b) (k : b.grownBy c (some r)) (hr : a.heap.size ≤ r) : Fr S a c := h.grown0 k hr
def exRel (W : World) (a : Int) (B T M : Nat) (nb : Int → Nat) (v : Value) (L : List Pr) (last : Int) (us : List Int) (D : DataW Unit) (wr : World) : Prop :=
  ∃ (left : Lit → Bool) (cnt : Nat), wr.ranges Try.prog 3 ptrR M W.heap.size L.length D left cnt ∧ PR wr B T M nb v (mix a left L) last us ∧ Fr (Bp T M nb v L) W wr
set_option maxRecDepth 100000 in
set_option maxHeartbeats 2000000 in
theorem exit_any (a st : Int) (ha : I64 a) (h : TAt W B T S s) (hs : Sd s) :
    Calls Try.prog 18 #[.pointer (some ⟨T, 0, none⟩), .int .i64 a, .int .i64 st] W fun e w' => e = .returned (.int .i64 (exitE s a)) ∧ Does W B T S (exitT s a st) w' := by
  have HT := Lib.hid h
  obtain ⟨M, nb, v, h1, hS⟩ := h
  have hL := live_any a ha h1
  unfold exitE exitT
  cases hl : liveP s.L a with
  | none =>
    rw [liveV_none hl] at hL
    simp only
    clear h1 hl hs
    go_enter Try.func18, Try.ntmps18
    go_wp2_with (go_at_call 31; refine hL.mono ?_; rintro e w' ⟨rfl, rfl⟩)
    go_ret
    exact ⟨rfl, HT.out.does⟩
  | some p =>
    simp only
    rw [liveV_some hl] at hL
    have hp := (live_some hl).1
    have HL := Lib.hid hL
    clear hL
    by_cases h1a : a = 1
    · rw [if_pos h1a, if_pos h1a]
      subst h1a
      clear h1 hl hs hp
      go_enter Try.func18, Try.ntmps18
      go_wp2_with (go_at_call 31; refine HL.out.mono ?_; rintro e w' ⟨rfl, rfl⟩)
      go_ret
      exact ⟨rfl, HT.out.does⟩
    · rw [if_neg h1a, if_neg h1a]
      have i1 : (a == 1) = false := by simpa using h1a
      have h2 := h1.set1 hp 5 (.bool true) (fun q => { q with dead := true }) (fun _ => rfl) rfl
      have hp2 := modP_same (fun q : Pr => { q with dead := true }) (fun _ => rfl) hp
      have h3 := h2.set1 hp2 4 (.int .i64 st) (fun q => { q with status := st }) (fun _ => rfl) rfl
      have hmm : modP a (fun q => { q with status := st }) (modP a (fun q => { q with dead := true }) s.L) = modP a (fun q => { q with dead := true, status := st }) s.L := modP_modP s.L a (fun q => { q with dead := true }) (fun q => { q with status := st }) (fun _ => rfl)
      rw [hmm] at h3
      have f5 := h1.frozenN hp 5
      have f4 := h2.frozenN hp2 4
      have hF3 : Fr (Bp T M nb v s.L) W ((W.setCell ⟨nb a, 5, none⟩ (.bool true)).setCell ⟨nb a, 4, none⟩ (.int .i64 st)) := ((Fr.refl _ _).setCell (p := ⟨nb a, 5, none⟩) (.inl (.inr (.inr (.inl ⟨a, p, hp, rfl⟩)))) _).setCell (p := ⟨nb a, 4, none⟩) (.inl (.inr (.inr (.inl ⟨a, p, hp, rfl⟩)))) _
      obtain ⟨-, -, -, -, k4, k5, -⟩ := h1.cells hp
      have hasc : (modP a (fun q => { q with dead := true, status := st }) s.L).Pairwise fun p q => p.pid < q.pid := asc_map (fun q => by split <;> rfl) hs.asc
      have HBp := Lib.hid fun k (hk : Bp T M nb v (modP a (fun q => { q with dead := true, status := st }) s.L) k) => (Bp.mod (f := fun q => { q with dead := true, status := st }) (fun _ => rfl)).1 hk
      clear h2 hp2 hmm h1 hs hl
      generalize hW3 : (W.setCell ⟨nb a, 5, none⟩ (.bool true)).setCell ⟨nb a, 4, none⟩ (.int .i64 st) = W3 at *
      generalize hL1 : modP a (fun q => { q with dead := true, status := st }) s.L = L1 at *
      obtain ⟨c0, -, -⟩ := h3.cell
      obtain ⟨D, hown, hAg⟩ := h3.map
      have HAg := Lib.hid hAg
      have HA := Lib.hid hasc
      have HP := Lib.hid h3
      have HF := Lib.hid hF3
      have hNb : ∀ x q, atP L1 x = some q → nb x < W3.heap.size ∧ nb x ≠ M := fun x q hq => ⟨heap_lt (h3.node x q hq), h3.nM hq⟩
      have HNb := Lib.hid hNb
      have hMlt := h3.ltM
      clear hAg hasc h3 hF3 hNb hp hL1
      generalize hb : nb a = b at *
      clear hb
      go_enter Try.func18, Try.ntmps18
      go_wp2_with (first
        | (go_at_call 31; refine HL.out.mono ?_; rintro e w' ⟨rfl, rfl⟩)
        | (at_range; refine wpList_range_own _ rfl _ 56 rfl 3 60 intLaw undMap ptrR M L1.length D rfl hown ?_; intro w0 hrg0 hg0 hs0)
        | go_in)
      go_frame
      go_loopw [9] (fun _ wr => exRel W3 a B T M nb v L1 s.last s.users D wr) (fun _ wr => wr.rangeLeft M W3.heap.size)
      case atStart =>
        have fr0 : Fr (fun _ => False) W3 w0 := Fr.of_below ⟨hg0.os, hg0.tape, hg0.output, hg0.size, fun k hk => hg0.block k hk (by simp)⟩
        refine ⟨_, _, hrg0, ?_, fr0.mono fun _ _ h => h.elim⟩
        rw [mix_start (has_all HAg.out HA.out)]
        exact HP.out.fr fr0 fun _ _ => id
      case round =>
        obtain ⟨left, cnt, hrg, hPR, hFr⟩ := hrel
        have HFr := Lib.hid hFr
        have HPR := Lib.hid hPR
        clear hFr hPR hown
        go_wp2_with (first
          | (at_next; refine wpl_next (L := L1) (nb := nb) rfl _ rfl M W3.heap.size _ D left cnt rfl hrg HAg.out ?_ ?_)
          | go_in)
        · intro hl0
          have hE := HPR.out
          rw [mix_end hl0] at hE
          have HE := Lib.hid hE
          clear hl0 hrg hE
          go_wp2
          go_ret
          refine ⟨rfl, _, ⟨M, nb, v, HE.out, rfl⟩, ?_, fun k hk => .inl ?_⟩
          · rw [hS]
            exact HF.out.trans (HFr.out.mono fun k _ hk => HBp.out k hk)
          · rw [hS]
            rcases hk with hk | hk | ⟨y, q, hq, hk⟩ | hk
            · exact .inl hk
            · exact .inr (.inl hk)
            · refine HBp.out k (.inr (.inr (.inl ?_)))
              simp only at hq
              rw [at_map (orphan_pid a)] at hq
              cases hp : atP L1 y with
              | none => rw [hp] at hq; cases hq
              | some p => exact ⟨y, p, hp, hk⟩
            · exact .inr (.inr (.inr hk))
        · intro q w1 cnt1 hmem hlx hrg1 hlt hg1 hen
          have hat := at_of_mem HA.out hmem
          have hmix := mix_at (a := a) hat hlx
          have hF1 : Fr (Bp T M nb v L1) W3 w1 := HFr.out.grown0 hg1 (Nat.le_refl _)
          have hP1 := HPR.out.fr (S := fun k => k = W3.heap.size) ⟨hg1.os, hg1.tape, hg1.output, hg1.size, fun k hk hn => hg1.block k hk (fun e => hn (by cases e; rfl))⟩ (fun k hk e => by
            have hk2 := hk.mix
            have := (HP.out.lt hk2).2
            omega)
          obtain ⟨-, k1, -⟩ := hP1.cells hmix
          have f1 := hP1.frozenN hmix 1
          obtain ⟨hn1, hn2⟩ := HNb.out _ _ hat
          have hbk : Bp T M nb v L1 (nb q.pid) := .inr (.inr (.inl ⟨_, _, hat, rfl⟩))
          have hF2 : Fr (Bp T M nb v L1) W3 (w1.setCell ⟨nb q.pid, 1, none⟩ (.int .i64 1)) := hF1.setCell (p := ⟨nb q.pid, 1, none⟩) (.inl hbk) _
          have hrg2 := ranges_blocks (w' := w1.setCell ⟨nb q.pid, 1, none⟩ (.int .i64 1)) hrg1 (Below.heap_setCell _ _ _ _ (Ne.symm hn2)) (Below.heap_setCell _ _ _ _ (by show W3.heap.size ≠ nb q.pid; omega))
          have hst := mix_step (a := a) (L := L1) hlx
          have Hrg := Lib.hid hrg
          have HF1 := Lib.hid hF1
          have HF2 := Lib.hid hF2
          have HRG1 := Lib.hid hrg1
          have HRG2 := Lib.hid hrg2
          by_cases hpa : q.parent = a
          · have hP2 := hP1.set1 hmix 1 (.int .i64 1) (orphan a) (orphan_pid a) (by unfold orphan; rw [if_pos hpa]; rfl)
            rw [← hst] at hP2
            have HP2 := Lib.hid hP2
            have i2 : (q.parent == a) = true := by simpa using hpa
            clear hP1 hP2 hst hmix hat hbk hF1 hF2 hrg hrg1 hrg2 hg1 hn2 hmem hlx HPR
            generalize nb q.pid = c at *
            go_wp2
            go_roundw
            case rel => exact ⟨_, cnt1, HRG2.out, HP2.out, HF2.out⟩
            case measure => rw [HRG2.out.left_eq, Hrg.out.left_eq]; exact hlt
          · have hfix := modP_fix (asc_mix (a := a) (left := left) HA.out) hmix (g := orphan a) (by unfold orphan; rw [if_neg hpa])
            rw [hfix] at hst
            rw [← hst] at hP1
            have HP2 := Lib.hid hP1
            have i2 : (q.parent == a) = false := by simpa using hpa
            clear hP1 hst hmix hat hbk hF1 hF2 hrg hrg1 hrg2 hg1 hn2 hmem hlx HPR hfix
            generalize nb q.pid = c at *
            go_wp2
            go_roundw
            case rel => exact ⟨_, cnt1, HRG1.out, HP2.out, HF1.out⟩
            case measure => rw [HRG1.out.left_eq, Hrg.out.left_eq]; exact hlt
end Go.Proofs.Ytgbmedbkonloiaa
