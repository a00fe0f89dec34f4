/- Scripts; Parse. -/
import Derived.Test.YtoahgblgchmclaaQB
import Derived.Test.YtoahgblgchmclaaPC
namespace Go.Proofs.Ytoahgblgchmclaa
open Go.RowKit
set_option linter.unusedVariables false
set_option linter.unusedSimpArgs false
section
variable {W w w' : World} {n p g cap : Nat} {K Kt : Nat → Prop} {all : List Tk} {nv nvt : Value} {s t : S}
theorem lcon_D (n p g cap : Nat) (all : List Tk) : ∀ d : Nat, d ≤ 25 → LCon (listD d) n p g cap all (25 - d) (60000 - 200 * (d + 1)) := by
  intro d
  induction d with
  | zero =>
    intro _ W K nv s h ho ho2 hp
    have hv : LCon (fun s => ((0 : Int), s)) n p g cap all 26 60000 := fun W K nv s h ho ho2 => by omega
    have := list_any (L := fun s => ((0 : Int), s)) (fun s => (St.refl s).le (by decide)) hv h (by omega) (by omega) (by omega)
    unfold listD
    exact this
  | succ d ih =>
    intro hd W K nv s h ho ho2 hp
    have := list_any (listD_st d) (ih (by omega)) h (by omega) (by omega) (by omega)
    unfold listD
    exact this
theorem script_any (h : PM W n K p g cap all nv s) (ho2 : s.opn ≤ 25) (hp : pot s ≤ 50000) :
    Calls Try.prog 15 #[.pointer (some ⟨p, 0, none⟩)] W fun e w' => e = .returned (.tuple #[]) ∧ ∃ nv' K', PM w' n K' p g cap all nv' (script s) ∧ Go p nv nv' K K' W w' := by
  have HB := Lib.hid (breaks_any h)
  have i1 := breaks_st s n h.x.inv
  obtain ⟨R, hR⟩ : ∃ R, script s = R := ⟨_, rfl⟩
  rw [hR]
  unfold script at hR
  dsimp only at hR
  obtain ⟨t1, ht1⟩ : ∃ t1, s.breaks = t1 := ⟨_, rfl⟩
  rw [ht1] at HB hR i1
  have HI := Lib.hid (fun (w : World) (h : PM w n K p g cap all nv t1) => bItem_any h)
  have HL := Lib.hid (fun (w : World) (h : PM w n K p g cap all nv t1) => lcon_D n p g cap all 25 (by decide) w K nv t1 h (by omega) (by have := i1.2.2.1; omega) (by have := i1.2.2.2; omega))
  have HN := Lib.hid (fun (w : World) (t : S) (K : Nat → Prop) (nv : Value) (h : PM w n K p g cap all nv t) => next_any h)
  have HF := Lib.hid (fun (w : World) (t : S) (K : Nat → Prop) (nv : Value) (h : PM w n K p g cap all nv t) => fail_any h)
  have tail : True := trivial
  cases hb : bItem t1.hd with
  | true =>
    rw [hb] at hR HI
    simp only [if_true] at hR
    obtain ⟨q, hq⟩ : ∃ q, listD 25 t1 = q := ⟨_, rfl⟩
    rw [hq] at hR HL
    by_cases hk : q.2.hd.kind = 4
    · rw [if_pos hk] at hR
      have HV := Lib.hid hR
      have hk2 : (q.2.hd.kind != 4) = false := by rw [hk]; rfl
      clear hR hk hq hb i1 ht1 h
      go_enter Try.func15, Try.ntmps15
      go_wp2_with (first | (refine wpList_field rfl _ _ rfl _ _ _ rfl _ rfl ?_) | (go_at_call 22; (with_reducible refine HB.out.mono ?_); rintro e w1 ⟨rfl, hP, hF⟩; have H1 := Lib.hid hP; have G1 := Lib.hid (Go.of (nv := nv) (K := K) hF); clear hP hF) | (go_at_call 23; (with_reducible refine (HI.out _ H1.out).mono ?_); rintro e w2 ⟨rfl, hF⟩; have H2 := Lib.hid (H1.out.fr hF); have G2 := Lib.hid (G1.out.call0 hF); clear hF) | (go_at_call 24; (with_reducible refine (HL.out _ H2.out).mono ?_); rintro e w3 ⟨rfl, nv3, K3, hP, hG⟩; have H3 := Lib.hid hP; have G3 := Lib.hid (G2.out.trans hG); clear hP hG) | (go_at_call 25; (with_reducible refine (HN.out _ _ _ _ H3.out).mono ?_); rintro e w4 ⟨rfl, hF⟩; have H4 := Lib.hid (H3.out.fr hF); have G4 := Lib.hid (G3.out.call0 hF); clear hF))
      refine bodyPost_end (results_none rfl _ _ _) rfl ?_
      exact ⟨rfl, _, _, by rw [← HV.out]; exact H4.out, G4.out⟩
    · rw [if_neg hk] at hR
      have HV := Lib.hid hR
      have hk2 : (q.2.hd.kind != 4) = true := by rw [bne_iff_ne]; exact hk
      clear hR hk hq hb i1 ht1 h
      go_enter Try.func15, Try.ntmps15
      go_wp2_with (first | (refine wpList_field rfl _ _ rfl _ _ _ rfl _ rfl ?_) | (go_at_call 22; (with_reducible refine HB.out.mono ?_); rintro e w1 ⟨rfl, hP, hF⟩; have H1 := Lib.hid hP; have G1 := Lib.hid (Go.of (nv := nv) (K := K) hF); clear hP hF) | (go_at_call 23; (with_reducible refine (HI.out _ H1.out).mono ?_); rintro e w2 ⟨rfl, hF⟩; have H2 := Lib.hid (H1.out.fr hF); have G2 := Lib.hid (G1.out.call0 hF); clear hF) | (go_at_call 24; (with_reducible refine (HL.out _ H2.out).mono ?_); rintro e w3 ⟨rfl, nv3, K3, hP, hG⟩; have H3 := Lib.hid hP; have G3 := Lib.hid (G2.out.trans hG); clear hP hG) | (go_at_call 25; (with_reducible refine (HN.out _ _ _ _ H3.out).mono ?_); rintro e w4 ⟨rfl, hF⟩; have H4 := Lib.hid (H3.out.fr hF); have G4 := Lib.hid (G3.out.call0 hF); clear hF) | (go_at_call 26; (with_reducible refine (HF.out _ _ _ _ H4.out).mono ?_); rintro e w5 ⟨rfl, hP, hF⟩; have H5 := Lib.hid hP; have G5 := Lib.hid (G4.out.call hF); clear hP hF))
      refine bodyPost_end (results_none rfl _ _ _) rfl ?_
      exact ⟨rfl, _, _, by rw [← HV.out]; exact H5.out, G5.out⟩
  | false =>
    rw [hb] at hR HI
    simp only [Bool.false_eq_true, if_false] at hR
    by_cases hk : t1.hd.kind = 4
    · rw [if_pos hk] at hR
      have HV := Lib.hid hR
      have hk2 : (t1.hd.kind != 4) = false := by rw [hk]; rfl
      clear hR hk hb i1 ht1 h HL
      go_enter Try.func15, Try.ntmps15
      go_wp2_with (first | (refine wpList_field rfl _ _ rfl _ _ _ rfl _ rfl ?_) | (go_at_call 22; (with_reducible refine HB.out.mono ?_); rintro e w1 ⟨rfl, hP, hF⟩; have H1 := Lib.hid hP; have G1 := Lib.hid (Go.of (nv := nv) (K := K) hF); clear hP hF) | (go_at_call 23; (with_reducible refine (HI.out _ H1.out).mono ?_); rintro e w2 ⟨rfl, hF⟩; have H2 := Lib.hid (H1.out.fr hF); have G2 := Lib.hid (G1.out.call0 hF); clear hF) | (go_at_call 25; (with_reducible refine (HN.out _ _ _ _ H2.out).mono ?_); rintro e w4 ⟨rfl, hF⟩; have H4 := Lib.hid (H2.out.fr hF); have G4 := Lib.hid (G2.out.call0 hF); clear hF))
      refine bodyPost_end (results_none rfl _ _ _) rfl ?_
      exact ⟨rfl, _, _, by rw [← HV.out]; exact H4.out, G4.out⟩
    · rw [if_neg hk] at hR
      have HV := Lib.hid hR
      have hk2 : (t1.hd.kind != 4) = true := by rw [bne_iff_ne]; exact hk
      clear hR hk hb i1 ht1 h HL
      go_enter Try.func15, Try.ntmps15
      go_wp2_with (first | (refine wpList_field rfl _ _ rfl _ _ _ rfl _ rfl ?_) | (go_at_call 22; (with_reducible refine HB.out.mono ?_); rintro e w1 ⟨rfl, hP, hF⟩; have H1 := Lib.hid hP; have G1 := Lib.hid (Go.of (nv := nv) (K := K) hF); clear hP hF) | (go_at_call 23; (with_reducible refine (HI.out _ H1.out).mono ?_); rintro e w2 ⟨rfl, hF⟩; have H2 := Lib.hid (H1.out.fr hF); have G2 := Lib.hid (G1.out.call0 hF); clear hF) | (go_at_call 25; (with_reducible refine (HN.out _ _ _ _ H2.out).mono ?_); rintro e w4 ⟨rfl, hF⟩; have H4 := Lib.hid (H2.out.fr hF); have G4 := Lib.hid (G2.out.call0 hF); clear hF) | (go_at_call 26; (with_reducible refine (HF.out _ _ _ _ H4.out).mono ?_); rintro e w5 ⟨rfl, hP, hF⟩; have H5 := Lib.hid hP; have G5 := Lib.hid (G4.out.call hF); clear hP hF))
      refine bodyPost_end (results_none rfl _ _ _) rfl ?_
      exact ⟨rfl, _, _, by rw [← HV.out]; exact H5.out, G5.out⟩
end
/-- what Parse answers. -/
def parsePost (W : World) (r : List Nd × Nat × Int) (e : Ending) (w' : World) : Prop :=
  ∃ v K, e = .returned (.tuple #[v, .int .i64 r.2.1, .int .i64 r.2.2]) ∧ Nds w' K v r.1 ∧ (∀ k, K k → W.heap.size ≤ k) ∧ (∀ k, v.ownBlock = some k → W.heap.size ≤ k) ∧ Fr (fun _ => False) W w'
/-- the parser, just made. -/
theorem PM.start {w : World} {n g cap : Nat} {all : List Tk} (hrow : Row w 0 (.slice (some ⟨g, 0, none⟩) all.length cap) all) (hg : Good n all) (hn : n ≤ 4096) (hl : all.length ≤ 4500) : PM (w.alloc (.cells #[.slice (some ⟨g, 0, none⟩) all.length cap, .slice none 0 0, .int .i64 0, .int .i64 0, .int .i64 0] 48)) n (fun _ => False) w.heap.size g cap all (.slice none 0 0) ⟨all, [], 0, 0, 0⟩ := by
  have hp : pos all ⟨all, [], 0, 0, 0⟩ = 0 := Nat.sub_self _
  obtain ⟨_, _, e, h1, h2, _⟩ := ownz_form (W := w) (show w.ownsRow 0 40 3 (.slice (some ⟨g, 0, none⟩) all.length cap) all.length (tkC all) from hrow)
  cases e
  refine ⟨?_, ⟨ownz_fr (show w.ownsRow 0 40 3 (.slice (some ⟨g, 0, none⟩) all.length cap) all.length (tkC all) from hrow) ((Fr.refl (fun _ => False) w).alloc _) (fun _ _ => id), Nds.nil _ _, List.suffix_refl _, ⟨hg, fun h => absurd rfl h, Nat.zero_le _⟩, ⟨h1, h2⟩, ⟨?_, hn⟩, fun _ e => e.elim⟩⟩
  · rw [heap_alloc_new]
    unfold pmC
    rw [hp]
    rfl
  · unfold pot
    show ((0 : Nat) : Int) + 20 * (all.length : Int) ≤ 100000
    omega
end Go.Proofs.Ytoahgblgchmclaa
