/- The walk of TtyLines. -/
import Derived.Test.YtojbgokbobkbdaaEL
namespace Go.Proofs.Ytojbgokbobkbdaa
open Go.RowKit
set_option linter.unusedVariables false
set_option linter.unusedSimpArgs false
variable {w0 W W' : World} {B T : Nat} {S : Nat → Prop} {s : TS}
def lineRel (w : World) (T : Nat) (iv wv : Value) (wr : World) : Prop := ∃ (k : Nat) (t : ByteArray), iv = .int .i64 k ∧ k ≤ 50 ∧ wv = .string t ∧ t.size ≤ 1000 * k ∧ TL w wr T ⟨[], [], true, t.data.toList⟩
def byteRel (w : World) (T : Nat) (s : TS) (n : Nat) (iv tv : Value) (wr : World) : Prop := ∃ (k : Nat) (t : ByteArray), iv = .int .i64 k ∧ k ≤ n ∧ k ≤ 200 ∧ tv = .string t ∧ t.size ≤ k ∧ Pr t ∧ TL w wr T s
theorem Pr.snoc {t : ByteArray} (h : Pr t) {c : UInt8} (hc : prints c) : Pr (t ++ ⟨#[c]⟩) := by
  intro b hb
  rw [data_app] at hb
  rcases List.mem_append.1 hb with hb | hb
  · exact h b hb
  · simp at hb; rw [hb]; exact hc
theorem size_snoc (t : ByteArray) (c : UInt8) : (t ++ ⟨#[c]⟩ : ByteArray).size = t.size + 1 := by rw [size_list, data_app, List.length_append, ← size_list]; rfl
theorem conv_new (c : UInt8) (w : World) : (convert 46 9 (.slice (some ⟨w.heap.size, 0, none⟩) 1 1)).run Try.prog (w.alloc (.cells #[.int .u8 (c.toNat : Int)] 5)) = .ok (.string ⟨#[c]⟩) (w.alloc (.cells #[.int .u8 (c.toNat : Int)] 5)) :=
  run_convert_bytes_back (P := Try.prog) _ 46 9 5 ⟨w.heap.size, 0, none⟩ 1 [c] Try.underlying46 Try.underlying5 Try.underlying9 (fun j hj => by
      obtain rfl : j = 0 := by simp at hj; exact hj
      exact cell_one_new w _ _ 0 _ rfl)
set_option maxHeartbeats 8000000 in
set_option maxRecDepth 100000 in
theorem lines_any (p0 : Option Addr) (n0 c0 : Nat) (z0 : List ByteArray) (p1 : Option Addr) (n1 c1 : Nat) (z1 : List Bool) (w : World) (h0 : InStrs w p0 n0 z0) (l0 : n0 ≤ maxLen) (h1 : InBools w p1 n1 z1) (l1 : n1 ≤ maxLen) :
    Calls Try.prog 5 #[.slice p0 n0 c0, .slice p1 n1 c1] w fun e w' => e = .returned (.bool true) ∧ Below w.heap.size w w' := by
  have H0 := Lib.hid h0
  have H1 := Lib.hid h1
  unfold maxLen at l0 l1
  clear h0 h1
  go_enter Try.func5, Try.ntmps5
  go_wp2_with fail
  refine (shown_any w).mono ?_
  rintro e w1 ⟨rfl, b1⟩
  go_wp2_with fail
  refine (tl_new b1).mono ?_
  rintro e w2 ⟨T, rfl, p2⟩
  have H2 := Lib.hid p2
  clear p2 b1
  go_wp2
  go_loopw [8, 7] (fun iv wv wr => lineRel w T iv wv wr) (fun iv _ _ => 50 - (Lib.intOf iv).toNat)
  case atStart => exact ⟨0, ⟨#[]⟩, rfl, by decide, rfl, by decide, H2.out⟩
  case round =>
    obtain ⟨k, u, rfl, hk, rfl, hu, hT⟩ := hrel
    clear H2
    generalize wr = x0 at *
    by_cases hlt : k < n0 ∧ k < 50
    · obtain ⟨k0, k2⟩ := hlt
      have hz0 : z0[k]? = some (z0[k]'(by rw [H0.out.1]; exact k0)) := List.getElem?_eq_getElem _
      obtain ⟨g0, o0, rfl, hc, hs⟩ := H0.out.2 k _ hz0
      generalize z0[k]'(by rw [H0.out.1]; exact k0) = z at hz0 hc hs
      have e0 := hT.cell hc
      have hg0 := cell_lt hc
      have HC := Lib.hid hc
      have i1 : (0 : Int) ≤ (k : Int) := by omega
      have i2 : (k : Int) < n0 := by omega
      have i4 : (k : Int) < 50 := by omega
      unfold maxLen at hs
      have H3 := Lib.hid hT
      clear hz0 hc hT
      go_wp2
      go_loopw [10, 9] (fun iv tv wr => byteRel w T ⟨[], [], true, u.data.toList⟩ z.size iv tv wr) (fun iv _ _ => 200 - (Lib.intOf iv).toNat)
      case atStart => exact ⟨0, ⟨#[]⟩, rfl, Nat.zero_le _, by decide, rfl, by decide, (by intro b hb; simp at hb), H3.out⟩
      case round =>
        obtain ⟨j, t, rfl, hj, hj2, rfl, ht, hp, hT⟩ := hrel
        have HP := Lib.hid hp
        have H4 := Lib.hid hT
        have e1 := hT.cell HC.out
        clear hp hT H3 e0
        by_cases hlt : j < z.size ∧ j < 200
        · obtain ⟨j1, j3⟩ := hlt
          have q0 : (0 : Int) ≤ j := by omega
          have q1 : (j : Int) < z.size := by omega
          have q2 : (j : Int) < 200 := by omega
          have hc := u8_cases (z[j]'j1)
          have hcv := conv_new (z[j]'j1) wr
          clear hj
          rcases hc with ⟨hp, c1, c2⟩ | ⟨hp, c1, c2⟩ | ⟨hp, c1, c2⟩ | ⟨hp, c1, c2, c3⟩
          · have HPC := Lib.hid (HP.out.snoc hp)
            have HSZ := Lib.hid (size_snoc t (z[j]'j1))
            clear hp
            have H5 := Lib.hid (H4.out.fresh ((Below.refl _ _).alloc (Nat.le_refl _) (.cells #[.int .u8 ((z[j]'j1).toNat : Int)] 5)))
            clear H4 HP
            go_wp2
            go_roundw
            case rel => exact ⟨j + 1, _, by go_num, by omega, by omega, rfl, by rw [HSZ.out]; omega, HPC.out, H5.out⟩
            case measure => simp [Lib.intOf]; omega
          · have HPC := Lib.hid (HP.out.snoc hp)
            have HSZ := Lib.hid (size_snoc t (z[j]'j1))
            clear hp
            have H5 := Lib.hid (H4.out.fresh ((Below.refl _ _).alloc (Nat.le_refl _) (.cells #[.int .u8 ((z[j]'j1).toNat : Int)] 5)))
            clear H4 HP
            go_wp2
            go_roundw
            case rel => exact ⟨j + 1, _, by go_num, by omega, by omega, rfl, by rw [HSZ.out]; omega, HPC.out, H5.out⟩
            case measure => simp [Lib.intOf]; omega
          · clear hp hcv
            go_wp2
            go_roundw
            case rel => exact ⟨j + 1, t, by go_num, by omega, by omega, rfl, by omega, HP.out, H4.out⟩
            case measure => simp [Lib.intOf]; omega
          · clear hp hcv
            go_wp2
            go_roundw
            case rel => exact ⟨j + 1, t, by go_num, by omega, by omega, rfl, by omega, HP.out, H4.out⟩
            case measure => simp [Lib.intOf]; omega
        · have hend : (j : Int) < z.size ∧ ¬ (j : Int) < 200 ∨ ¬ (j : Int) < z.size := by omega
          have hfd : (∃ v : Bool, (k : Int) < n1 ∧ ∃ g1 o1, p1 = some ⟨g1, o1, none⟩ ∧ wr.cell? ⟨g1, o1 + k, none⟩ = some (.bool v)) ∨ ¬ (k : Int) < n1 := by
            by_cases k1 : k < n1
            · have hz1 : z1[k]? = some (z1[k]'(by rw [H1.out.1]; exact k1)) := List.getElem?_eq_getElem _
              obtain ⟨g1, o1, rfl, hc1, -⟩ := H1.out.2 k _ hz1
              exact .inl ⟨_, by omega, g1, o1, rfl, H4.out.cell hc1⟩
            · exact .inr (by omega)
          have hfin : ∀ (E : UInt8), (E.toNat = 10 ∨ E.toNat = 13) → Calls Try.prog 16 #[.pointer (some ⟨T, 0, none⟩), .string (t ++ ⟨#[E]⟩)] wr (fun r w' => r = .returned (.tuple #[]) ∧ TL w w' T ⟨[t.data.toList ++ [10]], [], true, ((u ++ t) ++ ⟨#[10]⟩ : ByteArray).data.toList⟩) := by
            intro E hE
            have hK := type_enter t.data.toList HP.out u.data.toList (by rw [← size_list]; omega) E hE
            have HT := tl_type (t ++ ⟨#[E]⟩) (by rw [size_snoc]; omega) H4.out (by simp only; rw [← size_list]; omega)
            rw [data_app, hK] at HT
            rw [data_app, data_app]
            exact HT
          have HF := Lib.hid hfin
          have hu2 : ((u ++ t) ++ ⟨#[10]⟩ : ByteArray).size ≤ 1000 * (k + 1) := by rw [size_snoc, size_list, data_app, List.length_append, ← size_list, ← size_list]; omega
          have q1e : (⟨(t.data.toList ++ [10]).toArray⟩ : ByteArray) = t ++ ⟨#[10]⟩ := by apply ByteArray.ext; apply Array.toList_inj.1; simp
          have HQ := Lib.hid q1e
          have hts : t.size ≤ 200 := by omega
          have hRR := fun w9 (h9 : TL w w9 T ⟨[t.data.toList ++ [10]], [], true, ((u ++ t) ++ ⟨#[10]⟩ : ByteArray).data.toList⟩) => tl_read 300 h9
          have hR := read_whole (t.data.toList ++ [10]) 300 (by rw [List.length_append, ← size_list]; simp; omega) (by decide) ((u ++ t) ++ ⟨#[10]⟩ : ByteArray).data.toList
          unfold readV at hRR
          rw [hR.1, hR.2.1, hR.2.2, q1e] at hRR
          have HRR := Lib.hid hRR
          clear hlt hfin hR hRR q1e HP
          have hsu : u.size + t.size + 1 ≤ 100000 := by omega
          rcases hfd with ⟨v, f1, g1, o1, rfl, f2⟩ | f1
          · cases v
            ·
              rcases hend with ⟨i1, i2⟩ | i1
              all_goals
                go_wp2_with fail
                refine (HF.out 10 (.inl rfl)).mono ?_
                rintro e w5 ⟨rfl, h5⟩
                have HR := Lib.hid (HRR.out w5 h5)
                clear HF h5 HRR
                go_wp2_with fail
                refine HR.out.mono ?_
                rintro e w6 ⟨rfl, h6⟩
                have H6 := Lib.hid h6
                clear HR h6
                go_wp2
                go_roundw
                case rel => exact ⟨k + 1, _, by go_num, by omega, rfl, hu2, H6.out⟩
                case measure => simp [Lib.intOf]; omega
            ·
              rcases hend with ⟨i1, i2⟩ | i1
              all_goals
                go_wp2_with fail
                refine (HF.out 13 (.inr rfl)).mono ?_
                rintro e w5 ⟨rfl, h5⟩
                have HR := Lib.hid (HRR.out w5 h5)
                clear HF h5 HRR
                go_wp2_with fail
                refine HR.out.mono ?_
                rintro e w6 ⟨rfl, h6⟩
                have H6 := Lib.hid h6
                clear HR h6
                go_wp2
                go_roundw
                case rel => exact ⟨k + 1, _, by go_num, by omega, rfl, hu2, H6.out⟩
                case measure => simp [Lib.intOf]; omega
          ·
            rcases hend with ⟨i1, i2⟩ | i1
            all_goals
              go_wp2_with fail
              refine (HF.out 10 (.inl rfl)).mono ?_
              rintro e w5 ⟨rfl, h5⟩
              have HR := Lib.hid (HRR.out w5 h5)
              clear HF h5 HRR
              go_wp2_with fail
              refine HR.out.mono ?_
              rintro e w6 ⟨rfl, h6⟩
              have H6 := Lib.hid h6
              clear HR h6
              go_wp2
              go_roundw
              case rel => exact ⟨k + 1, _, by go_num, by omega, rfl, hu2, H6.out⟩
              case measure => simp [Lib.intOf]; omega
    · have hend : (k : Int) < n0 ∧ ¬ (k : Int) < 50 ∨ ¬ (k : Int) < n0 := by omega
      have hR := read_none 300 [] u.data.toList true
      have HR := Lib.hid (tl_read 300 hT)
      unfold readV at HR
      rw [hR.1, hR.2.1, hR.2.2] at HR
      clear hlt hT hR
      rcases hend with ⟨i1, i2⟩ | i1
      all_goals
        go_wp2_with fail
        refine HR.out.mono ?_
        rintro e w5 ⟨rfl, h5⟩
        have HS := Lib.hid (tl_screen h5)
        simp only at HS
        rw [← ba_eq] at HS
        clear HR h5
        go_wp2_with fail
        refine HS.out.mono ?_
        rintro e w6 ⟨rfl, h6⟩
        have HB := Lib.hid h6.bel
        clear HS h6
        go_wp2
        go_ret
        exact ⟨rfl, HB.out⟩
end Go.Proofs.Ytojbgokbobkbdaa
