/- Contracts of the program's add, New, mayFork, Fork, Becomes. -/
import Derived.Test.YtgbmedbkonloiaaFF
namespace Go.Proofs.Ytgbmedbkonloiaa
open Go.RowKit Go.Maps
set_option linter.unusedVariables false
set_option linter.unusedSimpArgs false
variable {W W' : World} {B T M : Nat} {nb : Int → Nat} {v : Value} {L : List Pr} {last : Int} {us : List Int} {S : Nat → Prop} {s : TB}
set_option maxRecDepth 100000 in
set_option maxHeartbeats 2000000 in
theorem add_any (p : Pr) (h : PR W B T M nb v L last us) (hx : I64 p.pid) (hf : atP L p.pid = none) (hl : L.length < maxLen) (h8 : us.length ≤ 8) :
    Calls Try.prog 22 #[.pointer (some ⟨T, 0, none⟩), .agg (prA p)] W fun r w' => r = .returned (.tuple #[]) ∧ ∃ nb' v', PR w' B T M nb' v' (L ++ [p]) p.pid (knowU us p) ∧ Step (Bp T M nb v L) (Bp T M nb' v' (L ++ [p])) W w' := by
  have hBW : B ≤ W.heap.size := Nat.le_trans h.base.1 (Nat.le_of_lt h.ltT)
  have hTlt := h.ltT
  have h1 := (h.fr (S := fun _ => False) ((Fr.refl _ W).alloc (.cells (prA p) 32)) (fun _ _ => id)).fr (S := fun _ => False) (Fr.refl _ _).drew (fun _ _ => id)
  obtain ⟨W2, hr, hm, ht⟩ := h1.map.put hl hx hf W.heap.size
  have h2 := h1.put (g := W.heap.size) (heap_alloc_new W _) hBW (fun x q hq e => by have := heap_lt (h.node x q hq); omega) hf ht hm
  have fr2 : Fr (Bp T M nb v L) (W.alloc (.cells (prA p) 32)).drew W2 := (Fr.grown ht.grown).mono fun k _ hk => .inr (.inl (by cases hk; rfl))
  have h3 := h2.sLast p.pid
  have S3 : Step (Bp T M nb v L) (Bp T M (fun x => if x = p.pid then W.heap.size else nb x) v (L ++ [p])) W (W2.setCell ⟨T, 1, none⟩ (.int .i64 p.pid)) := by
    refine ⟨((((Fr.refl _ W).alloc _).drew).trans fr2).setCell (p := ⟨T, 1, none⟩) (.inl (.inl rfl)) _, ?_⟩
    rintro k (hk | hk | ⟨x, q, hq, hk⟩ | hk)
    · exact .inl (.inl hk)
    · exact .inl (.inr (.inl hk))
    · rw [at_snoc hf] at hq
      change k = (if x = p.pid then W.heap.size else nb x) at hk
      by_cases e : x = p.pid
      · rw [if_pos e] at hk; exact .inr (by omega)
      · rw [if_neg e] at hq hk; exact .inl (.inr (.inr (.inl ⟨x, q, hq, hk⟩)))
    · exact .inl (.inr (.inr (.inr hk)))
  have hap : atP (L ++ [p]) p.pid = some p := by rw [at_snoc hf, if_pos rfl]
  have HK := Lib.hid (know_any (x := p.pid) h3 hap h8)
  simp only [if_true] at HK
  have S3 := Lib.hid S3
  obtain ⟨c0, c1, -⟩ := h2.cell
  have f1 := h2.frozen 1
  have e0 : (W.alloc (.cells (prA p) 32)).drew.cell? ⟨T, 0, none⟩ = some (.map (some M)) := h1.cell.1
  have n0 : (W.alloc (.cells (prA p) 32)).drew.cell? ⟨W.heap.size, 0, none⟩ = some (.int .i64 p.pid) := (lay_pr W _ p 0 _ rfl)
  have n2 : W2.cell? ⟨W.heap.size, 0, none⟩ = some (.int .i64 p.pid) := by
    have := (h2.cells hap).1
    simpa using this
  clear h1 h2 h3 h hm ht fr2 hap
  unfold prA at *
  generalize p.pid = x at *
  go_enter Try.func22, Try.ntmps22
  go_wp2_with fail
  go_region
  all_goals
    go_wp2_with (go_at_call 34; refine HK.out.mono ?_; rintro r w' ⟨rfl, v', hP, hS⟩)
    refine bodyPost_end (results_none rfl _ _ _) rfl ?_
    exact ⟨rfl, _, v', hP, S3.out.trans hS⟩
set_option maxRecDepth 100000 in
set_option maxHeartbeats 1000000 in
theorem pnew_any (W : World) :
    Calls Try.prog 8 #[] W fun r w' => ∃ T S, r = .returned (.pointer (some ⟨T, 0, none⟩)) ∧ TAt w' W.heap.size T S new0 ∧ Fr (fun _ => False) W w' := by
  have hM := PMap.made W (fun _ => 0)
  have f1 : Fr (fun _ => False) (W.alloc (.map #[] 0)) ((W.alloc (.map #[] 0)).alloc (.cells #[.map (some W.heap.size), .int .i64 0, .slice none 0 0] 58)) := (Fr.refl _ _).alloc _
  have hP : PR ((W.alloc (.map #[] 0)).alloc (.cells #[.map (some W.heap.size), .int .i64 0, .slice none 0 0] 58)) W.heap.size (W.alloc (.map #[] 0)).heap.size W.heap.size (fun _ => 0) (.slice none 0 0) [] 0 [] :=
    ⟨heap_alloc_new _ _, hM.of_block (f1.block _ hM.lt id), fun x p hp => (by cases hp), fun x y p q hp => (by cases hp), own_none _ _ _, by simp, Nat.le_refl _, fun x p hp => (by cases hp)⟩
  have hA := add_any (L := []) (us := []) ⟨1, 0, 0, 1, 0, false, true⟩ hP ⟨by decide, by decide⟩ rfl (by decide) (by decide)
  have HA := Lib.hid hA
  have HF := Lib.hid (((Fr.refl (fun _ => False) W).alloc (.map #[] 0)).trans f1)
  have hs1 : (W.alloc (.map #[] 0)).heap.size = W.heap.size + 1 := by simp
  rw [hs1] at HA
  have hmm := @run_makeMap Try.prog
  clear hA hP hM f1
  go_enter Try.func8, Try.ntmps8
  go_wp2_with (go_at_call 22; refine HA.out.mono ?_; rintro r w' ⟨rfl, nb', v', hP, hS⟩)
  go_ret
  refine ⟨_, _, rfl, ⟨_, nb', v', hP, rfl⟩, ⟨hS.1.os.trans HF.out.os, hS.1.tape.trans HF.out.tape, hS.1.output.trans HF.out.output, Nat.le_trans HF.out.size hS.1.size, fun k hk _ => (hS.1.block k (Nat.lt_of_lt_of_le hk HF.out.size) ?_).trans (HF.out.block k hk id)⟩⟩
  rintro (h | h | ⟨x, q, h, _⟩ | h)
  · omega
  · omega
  · cases h
  · cases h
set_option maxHeartbeats 1000000 in
theorem mayfork_any (a : Int) (r : Bool) {p : Pr} (h : PR W B T M nb v s.L s.last s.users) (hs : Sd s) (hb : s.last ≤ 1000000) (hl : liveP s.L a = some p) :
    Calls Try.prog 32 #[.pointer (some ⟨T, 0, none⟩), .pointer (some ⟨nb a, 0, none⟩), .bool r] W fun e w' => e = .returned (.int .i64 (forkE s a r)) ∧ Fr (fun _ => False) W w' := by
  have hp := (live_some hl).1
  have hpa := (at_some hp).2
  obtain ⟨k0, -, k2, -⟩ := h.cells hp
  unfold forkE
  rw [hl]
  simp only
  cases r
  · have HM := Lib.hid (maycount_any p.user ⟨M, nb, v, h, rfl⟩ hs hb)
    rw [if_neg (by decide)]
    clear h hs hl hp
    generalize nb a = b at *
    go_enter Try.func32, Try.ntmps32
    go_wp2_with (go_at_call 33; refine HM.out.mono ?_; rintro e w' ⟨rfl, hF⟩)
    go_ret
    exact ⟨rfl, hF⟩
  · rw [if_pos rfl]
    rw [hpa] at k0
    by_cases h1 : a = 1
    · rw [if_pos h1]
      subst h1
      have HR := Lib.hid (reserved_any h hs.asc (Int.le_trans hs.len hb))
      generalize resP s.L = n at *
      clear h hs hl hp
      generalize nb 1 = b at *
      by_cases h5 : 5 ≤ n
      · rw [if_pos h5]
        have i1 : (5 : Int) ≤ n := by omega
        go_enter Try.func32, Try.ntmps32
        go_wp2_with (go_at_call 41; refine HR.out.mono ?_; rintro e w' ⟨rfl, hF⟩)
        go_ret
        exact ⟨rfl, hF⟩
      · rw [if_neg h5]
        have i1 : ¬ (5 : Int) ≤ n := by omega
        go_enter Try.func32, Try.ntmps32
        go_wp2_with (go_at_call 41; refine HR.out.mono ?_; rintro e w' ⟨rfl, hF⟩)
        go_ret
        exact ⟨rfl, hF⟩
    · rw [if_neg h1]
      have i1 : (a == 1) = false := by simpa using h1
      clear h hs hl hp
      generalize nb a = b at *
      go_enter Try.func32, Try.ntmps32
      go_wp2
      go_ret
      exact ⟨rfl, Fr.refl _ _⟩
theorem at_last {s : TB} (h : Sd s) : atP s.L (s.last + 1) = none := by
  unfold atP
  rw [List.find?_eq_none]
  intro p hp
  have := (h.rng p hp).2
  simp [isP]; omega
set_option maxRecDepth 100000 in
set_option maxHeartbeats 2000000 in
theorem fork_any (a : Int) (r : Bool) (ha : I64 a) (h : TAt W B T S s) (hs : Sd s) (hb : s.last ≤ 1000000) :
    Calls Try.prog 17 #[.pointer (some ⟨T, 0, none⟩), .int .i64 a, .bool r] W fun e w' => e = .returned (.tuple #[.int .i64 (forkN s a r), .int .i64 (forkE s a r)]) ∧ Does W B T S (forkT s a r) w' := by
  have HT := Lib.hid h
  obtain ⟨M, nb, v, h1, rfl⟩ := h
  have hL := live_any a ha h1
  cases hl : liveP s.L a with
  | none =>
    have R1 : forkE s a r = 3 := by unfold forkE; rw [hl]
    have R2 : forkT s a r = s := by unfold forkT; rw [hl]
    have R3 : forkN s a r = 0 := by unfold forkN; rw [R1]; rfl
    rw [R1, R2, R3]
    rw [liveV_none hl] at hL
    clear h1 hl hs R1 R2 R3
    go_enter Try.func17, Try.ntmps17
    go_wp2_with (go_at_call 31; refine hL.mono ?_; rintro e w' ⟨rfl, rfl⟩)
    go_ret2
    exact ⟨rfl, HT.out.does⟩
  | some p =>
    rw [liveV_some hl] at hL
    have hMF := mayfork_any a r h1 hs hb hl
    have hp := (live_some hl).1
    by_cases he : forkE s a r = 0
    · have R2 : forkT s a r = ⟨s.L ++ [kidOf s a r p], s.last + 1, knowU s.users (kidOf s a r p)⟩ := by unfold forkT; rw [hl]; simp only; rw [if_pos he]; rfl
      have R3 : forkN s a r = s.last + 1 := by unfold forkN; rw [he]; rfl
      rw [he] at hMF
      have HR2 := Lib.hid R2
      rw [he, R3]
      have hlen := hs.len
      have hpos := hs.pos
      have HADD := Lib.hid fun W' (hF : Fr (fun _ => False) W W') => add_any (kidOf s a r p) (h1.fr hF fun _ _ => id) ⟨by show _ ≤ s.last + 1; omega, by show s.last + 1 ≤ _; omega⟩ (at_last hs) (by unfold maxLen; omega) hs.u8
      have HK := Lib.hid fun W' (hF : Fr (fun _ => False) W W') => h1.fr hF fun _ _ => id
      clear HT h1 hs hl R2 R3
      go_enter Try.func17, Try.ntmps17
      go_wp2_with (first
        | (go_at_call 31; refine hL.mono ?_; rintro e w' ⟨rfl, rfl⟩)
        | (go_at_call 32; refine hMF.mono ?_; rintro e w1 ⟨rfl, hF⟩))
      have hPd := HK.out w1.drew (hF.drew)
      obtain ⟨c0, c1, -⟩ := hPd.cell
      obtain ⟨-, -, k2, k3, -⟩ := hPd.cells hp
      have HAD := Lib.hid (HADD.out w1.drew hF.drew)
      have HF := Lib.hid hF
      unfold kidOf prA prC at HAD
      simp only at HAD
      have hw : IntKind.i64.wrap (s.last + 1) = s.last + 1 := by rw [IntKind.wrap_i64]; omega
      clear hPd HADD HK hF hMF hL hp
      generalize nb a = b at *
      refine wp_region_still_tail 17 (by kernel_rfl) (by kernel_rfl) ?_
      change wpStill _ _ w1.drew (fun a' => wpList _ _ _ _ a' w1.drew) _ _
      obtain ⟨W2, hW2⟩ : ∃ W2, W2 = w1.drew := ⟨_, rfl⟩
      have HFd := Lib.hid (show Fr (fun _ => False) W W2 from hW2 ▸ HF.out.drew)
      rw [← hW2] at c0 c1 k2 k3 HAD ⊢
      clear hW2 HF
      simp only [List.take_succ_cons, List.take_zero, List.drop_succ_cons, List.drop_zero]
      repeat still_step
      refine wpStill_nil ?_
      clear c0 c1 k2 k3
      go_wp2_with (go_at_call 22; refine HAD.out.mono ?_; rintro e w' ⟨rfl, nb', v', hP, hS⟩; have c1 := hP.cell.2.1)
      go_ret2
      refine ⟨rfl, ?_⟩
      rw [HR2.out]
      exact ⟨_, ⟨_, nb', v', hP, rfl⟩, (Step.refl _ _).trans (Step.trans ⟨HFd.out.mono fun _ _ h => h.elim, fun k hk => .inl hk⟩ hS)⟩
    · have R2 : forkT s a r = s := by unfold forkT; rw [hl]; simp only; rw [if_neg he]
      have R3 : forkN s a r = 0 := by unfold forkN; rw [if_neg he]
      rw [R2, R3]
      have i1 : (forkE s a r == 0) = false := by simpa using he
      generalize forkE s a r = z at *
      clear h1 hs hl R2 R3 hp he
      generalize nb a = b at *
      go_enter Try.func17, Try.ntmps17
      go_wp2_with (first
        | (go_at_call 31; refine hL.mono ?_; rintro e w' ⟨rfl, rfl⟩)
        | (go_at_call 32; refine hMF.mono ?_; rintro e w1 ⟨rfl, hF⟩))
      go_ret2
      exact ⟨rfl, HT.out.does_fr hF⟩
end Go.Proofs.Ytgbmedbkonloiaa
