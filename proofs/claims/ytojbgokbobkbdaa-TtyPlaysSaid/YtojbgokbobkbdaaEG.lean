/- Keys of the program's terminal: add, key, Type. -/
import Derived.Test.YtojbgokbobkbdaaEF
namespace Go.Proofs.Ytojbgokbobkbdaa
open Go.RowKit
set_option linter.unusedVariables false
set_option linter.unusedSimpArgs false
variable {W W' : World} {B T : Nat} {v0 v2 p v5 : Value} {q : Int} {e : Bool} {L : List Bs} {line sh : Bs} {S : Nat → Prop} {s : TS}
theorem add_any (b : UInt8) (h : TAt W B T S s) (hk : Ok s) (hs : s.shown.length ≤ 100000000000000) :
    Calls Try.prog 38 #[.pointer (some ⟨T, 0, none⟩), .int .u8 (b.toNat : Int)] W fun r w' => r = .returned (.tuple #[]) ∧ Does W B T S (addP b s) w' := by
  have HF := Lib.hid (full_any s h hk)
  have H := Lib.hid h
  have hl2 := hk.line
  have hc2 : ∃ ao cap, W.cell? ⟨T, 2, none⟩ = some (.slice ao s.line.length cap) := by
    obtain ⟨v0, v2, v5, p, h1, hS⟩ := h
    obtain ⟨ao, cap, hv, -⟩ := own_form h1.o2
    exact ⟨ao, cap, hv ▸ h1.cell.2.2.1⟩
  obtain ⟨ao, cap, c2⟩ := hc2
  clear h
  by_cases hline : 256 ≤ s.line.length
  · have R : addP b s = s := if_pos (.inl hline)
    have HR := Lib.hid R
    have hi : (256 : Int) ≤ s.line.length := by omega
    clear hk R HF hline
    go_enter Try.func38, Try.ntmps38
    go_wp2
    refine bodyPost_ret (results_none rfl _ _ _) rfl ?_
    rw [HR.out]
    exact ⟨rfl, S, H.out, Step.refl _ _⟩
  have hi : ¬ (256 : Int) ≤ s.line.length := by omega
  by_cases hf : isFull s = true
  · have R : addP b s = s := if_pos (.inr hf)
    rw [hf] at HF
    have HR := Lib.hid R
    clear hk R hf hline
    go_enter Try.func38, Try.ntmps38
    go_wp2_with fail
    refine HF.out.mono ?_
    rintro r w1 ⟨rfl, h1, f1⟩
    clear HF
    go_wp2
    refine bodyPost_ret (results_none rfl _ _ _) rfl ?_
    rw [HR.out]
    exact ⟨rfl, S, h1, f1.mono (fun _ _ h => h.elim), fun k hk => .inl hk⟩
  · have R : addP b s = showP [b] ⟨s.L, s.line ++ [b], s.echo, s.shown⟩ := if_neg (by rintro (h | h); exact hline h; exact hf h)
    have hf' : isFull s = false := by simpa using hf
    rw [hf'] at HF
    have HR := Lib.hid R
    obtain ⟨i0, hi0, hz0, hz1, hz2⟩ := info_byte
    clear hk R hf hf' hline
    go_enter Try.func38, Try.ntmps38
    go_wp2_with fail
    refine HF.out.mono ?_
    rintro r w1 ⟨rfl, h1, f1⟩
    clear HF c2
    have F1 := Lib.hid f1
    obtain ⟨v0, v2, v5, p, h2, hS⟩ := h1
    obtain ⟨-, -, c2, -, -, -⟩ := h2.cell
    have hBW : B ≤ w1.heap.size := Nat.le_trans h2.base (Nat.le_of_lt (heap_lt h2.hb))
    have hA := h2.fr (S := fun _ => False) ((Fr.refl _ w1).alloc (.cells #[.int .u8 (b.toNat : Int)] 5)) (fun _ _ => id)
    have HA := Lib.hid hA
    clear hA h2 f1
    go_wp2_with (refine wpList_append_own_at _ rfl _ _ 46 rfl B 5 i0 (.int .u8 0) 1 1 Try.underlying46 hi0 hz0 hz1 hz2 rfl (by decide) v2 s.line.length (Lib.byteCells s.line) rfl HA.out.o2 ⟨w1.heap.size, 0, none⟩ 1 1 [.int .u8 (b.toNat : Int)] rfl rfl (cell_one_new w1 _ _) (by intro x hx; simp at hx; subst hx; rfl) (by unfold maxLen; omega) (by omega) (by simp; omega) ?_)
    intro v' w2 hown hgrow hnil hat
    have h0 : w2.ownsRow B 5 1 v' (s.line ++ [b]).length (Lib.byteCells (s.line ++ [b])) := by
      rw [Lib.byteCells_append, List.length_append]
      exact hown
    obtain ⟨g, cap2, rfl, hg1, hg2⟩ := hown.form (by omega)
    obtain ⟨k1, k2, k3⟩ := HA.out.a2 hgrow h0 (hat.imp id fun h => ⟨w1.heap.size + 1, h, by simp⟩)
    have fT := (Fr.grown hgrow).block T (heap_lt HA.out.hb) (fun hk => HA.out.n2 T hk rfl)
    have f0 : w2.frozen? ⟨T, 2, none⟩ = false := (World.frozen?_of_block fT).trans (HA.out.frozen 2)
    have e0 : w2.cell? ⟨T, 2, none⟩ = some v2 := (World.cell?_of_block fT).trans HA.out.cell.2.2.1
    have K1 := Lib.hid k1
    have K2 := Lib.hid ((((Fr.refl (Bl T v0 v2 v5) w1).alloc (.cells #[.int .u8 (b.toNat : Int)] 5))).trans k2)
    have K3 := Lib.hid (fun k hk => (k3 k hk).imp id (fun (h : _ ≤ k) => (by rw [World.size_alloc] at h; omega : w1.heap.size ≤ k)))
    clear k1 k2 k3 h0 hown hgrow hnil hat c2 HA fT hg1 hg2
    go_wp2_with fail
    generalize hw3 : w2.setCell ⟨T, 2, none⟩ (.slice (some ⟨g, 0, none⟩) (s.line.length + 1) cap2) = w3 at *
    clear hw3 e0 f0
    have hD := K1.out.fr (S := fun _ => False) ((Fr.refl _ w3).drew) (fun _ _ => id)
    obtain ⟨-, -, c2, -, -, -⟩ := hD.cell
    have d2 := K1.out.cell.2.2.1
    obtain ⟨n, hn⟩ : ∃ n, n = s.line.length := ⟨_, rfl⟩
    have ho2 := hD.o2
    rw [List.length_append, ← hn] at ho2
    have hcap : n + 1 ≤ cap2 := by
      obtain ⟨_, _, e1, e2⟩ := own_form ho2
      cases e1
      exact e2
    have hcc := ho2.cellAt n (by simp)
    have hcb : w3.drew.cell? ⟨g, n, none⟩ = some (.int .u8 (b.toNat : Int)) := by
      rw [hcc]
      simp [Lib.byteCells, hn]
    have hcv := run_convert_bytes_back (P := Try.prog) w3.drew 46 9 5 ⟨g, n, none⟩ (cap2 - n) [b] Try.underlying46 Try.underlying5 Try.underlying9 (fun j hj => by
      obtain rfl : j = 0 := by simp at hj; exact hj
      rw [Addr.add_lit]
      exact hcb)
    simp only [List.length_cons, List.length_nil, Nat.zero_add] at hcv
    have hsl : (Instr.slice 46 (.slice (some ⟨g, 0, none⟩) (n + 1) cap2) (some (.int .i64 (n : Int))) none none).run Try.prog w3.drew = .ok (.slice (some ⟨g, n, none⟩) 1 (cap2 - n)) w3.drew := by
      rw [run_slice_l w3.drew 46 _ _ _ (by kernel_rfl) .i64 (n : Int) (by omega) (by omega)]
      rw [show (sizeOf (Try.prog.elem 46)).run Try.prog w3.drew = .ok 1 w3.drew by kernel_rfl]
      simp only [Result.andThen_ok, Int.toNat_natCast]
      unfold sliced
      rw [if_neg (by omega), Option.map_some, Nat.mul_one, Addr.add_lit, Nat.zero_add, show n + 1 - n = 1 by omega]
    have hwr : IntKind.i64.wrap (n : Int) = n := by rw [IntKind.wrap_i64]; omega
    rw [← hn] at c2 d2 K1 K3
    have hT : TAt w3.drew B T (Bl T v0 (.slice (some ⟨g, 0, none⟩) (n + 1) cap2) v5) ⟨s.L, s.line ++ [b], s.echo, s.shown⟩ := ⟨v0, _, v5, p, hn ▸ hD, rfl⟩
    have HS := Lib.hid (show_any ⟨[b].toArray⟩ hT (by rw [ba_size]; simp; omega))
    have K2' := Lib.hid (K2.out.drew)
    rw [← hn]
    have hu : (⟨[b].toArray⟩ : ByteArray).data.toList = [b] := rfl
    have HU := Lib.hid hu
    clear hu
    generalize (⟨[b].toArray⟩ : ByteArray) = u at *
    have K3' := Lib.hid (fun k hk => ((K3.out k hk).imp (fun h => (hS ▸ h : S k)) (fun h => Nat.le_trans F1.out.size h)))
    have F2 := Lib.hid ((F1.out.mono (fun _ _ h => h.elim)).trans (hS ▸ K2'.out : Fr S w1 w3.drew))
    clear hn ho2 hcc hD hT K1 K2
    go_region_with (go_at_call 44; refine HS.out.mono ?_; rintro r w4 ⟨rfl, h4⟩)
    all_goals
      refine bodyPost_end (results_none rfl _ _ _) rfl ?_
      rw [HR.out]
      rw [HU.out] at h4
      exact ⟨rfl, Does.then ⟨F2.out, K3'.out⟩ h4⟩
theorem key_any (b : UInt8) (h : TAt W B T S s) (hk : Ok s) (hs : s.shown.length ≤ 100000000000000) :
    Calls Try.prog 29 #[.pointer (some ⟨T, 0, none⟩), .int .u8 (b.toNat : Int)] W fun r w' => r = .returned (.tuple #[]) ∧ Does W B T S (keyP b s) w' := by
  obtain ⟨R, hR⟩ : ∃ R, keyP b s = R := ⟨_, rfl⟩
  rw [hR]
  unfold keyP at hR
  by_cases k1 : b.toNat = 10 ∨ b.toNat = 13
  · rw [if_pos k1] at hR
    subst hR
    have HQ := Lib.hid (enter_any h hk hs)
    clear h hk
    rcases k1 with k1 | k1
    all_goals
      rw [k1]
      go_enter Try.func29, Try.ntmps29
      go_wp2_with fail
      refine HQ.out.mono ?_
      rintro r w1 ⟨rfl, h1⟩
      clear HQ
      go_wp2
      refine bodyPost_end (results_none rfl _ _ _) rfl ?_
      exact ⟨rfl, h1⟩
  rw [if_neg k1] at hR
  by_cases k2 : b.toNat = 4
  · rw [if_pos k2] at hR
    subst hR
    have HQ := Lib.hid (end_any h hk)
    clear h hk k1
    rw [k2]
    go_enter Try.func29, Try.ntmps29
    go_wp2_with fail
    refine HQ.out.mono ?_
    rintro r w1 ⟨rfl, h1⟩
    clear HQ
    go_wp2
    refine bodyPost_end (results_none rfl _ _ _) rfl ?_
    exact ⟨rfl, h1⟩
  rw [if_neg k2] at hR
  by_cases k3 : b.toNat = 8 ∨ b.toNat = 127
  · rw [if_pos k3] at hR
    subst hR
    have HQ := Lib.hid (erase_any 1 (by decide) h hk hs)
    clear h hk k1 k2
    rcases k3 with k3 | k3
    all_goals
      rw [k3]
      go_enter Try.func29, Try.ntmps29
      go_wp2_with fail
      refine HQ.out.mono ?_
      rintro r w1 ⟨rfl, h1⟩
      clear HQ
      go_wp2
      refine bodyPost_end (results_none rfl _ _ _) rfl ?_
      exact ⟨rfl, h1⟩
  rw [if_neg k3] at hR
  by_cases k4 : b.toNat = 21
  · rw [if_pos k4] at hR
    subst hR
    have HQ := Lib.hid (erase_any s.line.length (by have := hk.line; omega) h hk hs)
    have hc2 : ∃ ao cap, W.cell? ⟨T, 2, none⟩ = some (.slice ao s.line.length cap) := by
      obtain ⟨v0, v2, v5, p, h1, hS⟩ := h
      obtain ⟨ao, cap, hv, -⟩ := own_form h1.o2
      exact ⟨ao, cap, hv ▸ h1.cell.2.2.1⟩
    obtain ⟨ao, cap, c2⟩ := hc2
    clear h hk k1 k2 k3
    rw [k4]
    go_enter Try.func29, Try.ntmps29
    go_wp2_with fail
    refine HQ.out.mono ?_
    rintro r w1 ⟨rfl, h1⟩
    clear HQ
    go_wp2
    refine bodyPost_end (results_none rfl _ _ _) rfl ?_
    exact ⟨rfl, h1⟩
  rw [if_neg k4] at hR
  have e1 : ((b.toNat : Int) == 10) = false := by simp; omega
  have e2 : ((b.toNat : Int) == 13) = false := by simp; omega
  have e3 : ((b.toNat : Int) == 4) = false := by simp; omega
  have e4 : ((b.toNat : Int) == 8) = false := by simp; omega
  have e5 : ((b.toNat : Int) == 127) = false := by simp; omega
  have e6 : ((b.toNat : Int) == 21) = false := by simp; omega
  by_cases k5 : prints b
  · rw [if_pos k5] at hR
    subst hR
    have HQ := Lib.hid (add_any b h hk hs)
    clear h hk k1 k2 k3 k4
    have e7 : ((b.toNat : Int) == 9) = true ∨ (((b.toNat : Int) == 9) = false ∧ (32 : Int) ≤ b.toNat ∧ (b.toNat : Int) ≤ 126) := by
      unfold prints at k5
      by_cases h9 : b.toNat = 9
      · exact .inl (by rw [h9]; rfl)
      · exact .inr ⟨by simp; omega, by omega, by omega⟩
    clear k5
    rcases e7 with e7 | ⟨e7, e8, e9⟩
    all_goals
      go_enter Try.func29, Try.ntmps29
      go_wp2_with fail
      refine HQ.out.mono ?_
      rintro r w1 ⟨rfl, h1⟩
      clear HQ
      go_wp2
      refine bodyPost_end (results_none rfl _ _ _) rfl ?_
      exact ⟨rfl, h1⟩
  · rw [if_neg k5] at hR
    subst hR
    have H := Lib.hid h
    have e7 : ((b.toNat : Int) == 9) = false ∧ (¬ (32 : Int) ≤ b.toNat ∨ ((32 : Int) ≤ b.toNat ∧ ¬ (b.toNat : Int) ≤ 126)) := by
      unfold prints at k5
      exact ⟨by simp; omega, by omega⟩
    clear h hk k1 k2 k3 k4 k5
    obtain ⟨e7, e8 | ⟨e8, e9⟩⟩ := e7
    all_goals
      go_enter Try.func29, Try.ntmps29
      go_wp2
      refine bodyPost_end (results_none rfl _ _ _) rfl ?_
      exact ⟨rfl, S, H.out, Step.refl _ _⟩
theorem take_snoc (l : Bs) (k : Nat) (h : k < l.length) : l.take (k + 1) = l.take k ++ [l[k]] := by rw [List.take_add_one, List.getElem?_eq_getElem h]; rfl
def typeRel (W : World) (B T : Nat) (S : Nat → Prop) (s : TS) (l : Bs) (iv : Value) (wr : World) : Prop := ∃ (k : Nat), iv = .int .i64 k ∧ k ≤ l.length ∧ Does W B T S (typeP (l.take k) s) wr
set_option maxHeartbeats 2000000 in
theorem type_any (t : ByteArray) (ht : t.size ≤ 100000000) (h : TAt W B T S s) (hk : Ok s) (hs : s.shown.length ≤ 1000000000000) :
    Calls Try.prog 16 #[.pointer (some ⟨T, 0, none⟩), .string t] W fun r w' => r = .returned (.tuple #[]) ∧ Does W B T S (typeP t.data.toList s) w' := by
  have H0 := Lib.hid h.does
  have HK := Lib.hid hk
  have hl : t.data.toList.length = t.size := rfl
  have HL := Lib.hid hl
  clear h hk hl
  go_enter Try.func16, Try.ntmps16
  go_wp2
  go_loopw [7] (fun iv wr => typeRel W B T S s t.data.toList iv wr) (fun iv _ => t.size - (Lib.intOf iv).toNat)
  case atStart => exact ⟨0, rfl, Nat.zero_le _, H0.out⟩
  case round =>
    obtain ⟨k, rfl, hk, S1, h1, st⟩ := hrel
    rw [HL.out] at hk
    clear H0
    by_cases hlt : k < t.size
    · have i1 : (k : Int) < t.size := by omega
      have i0 : (0 : Int) ≤ k := by omega
      have hkl : k < t.data.toList.length := by rw [HL.out]; exact hlt
      have hbt : t[k] = t.data.toList[k] := rfl
      have hs1 := shown_type HK.out (t.data.toList.take k)
      have hkt : (t.data.toList.take k).length ≤ 100000000 := by rw [List.length_take, HL.out]; omega
      have HQ := Lib.hid (key_any t.data.toList[k] h1 (ok_type HK.out _) (by omega))
      have ST := Lib.hid st
      have HT := Lib.hid (take_snoc _ k hkl)
      clear h1 st hs1 hkt hk
      go_wp2_with fail
      refine HQ.out.mono ?_
      rintro r w2 ⟨rfl, h2⟩
      have H2 := Lib.hid (Does.then ST.out h2)
      clear HQ h2 ST
      go_wp2
      go_roundw
      case rel =>
        refine ⟨k + 1, by go_num, by rw [HL.out]; omega, ?_⟩
        rw [HT.out, typeP_app, typeP_one]
        exact H2.out
      case measure => simp [Lib.intOf]; omega
    · have hkn : k = t.size := by omega
      have hR : t.data.toList.take k = t.data.toList := List.take_of_length_le (by rw [HL.out]; omega)
      rw [hR] at h1
      have i1 : ¬ (k : Int) < t.size := by omega
      have HD := Lib.hid (show Does W B T S (typeP t.data.toList s) wr from ⟨S1, h1, st⟩)
      clear h1 st hR
      go_wp2
      refine bodyPost_end (results_none rfl _ _ _) rfl ?_
      exact ⟨rfl, HD.out⟩
end Go.Proofs.Ytojbgokbobkbdaa
