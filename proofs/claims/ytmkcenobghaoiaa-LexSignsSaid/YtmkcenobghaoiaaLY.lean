/- The law LexSigns: the walk. -/
import Derived.Test.YtmkcenobghaoiaaLX
namespace Go.Proofs.Ytmkcenobghaoiaa
open Go.RowKit
set_option linter.unusedVariables false
set_option linter.unusedSimpArgs false
theorem st_app (a b : Bs) : st a ++ st b = st (a ++ b) := by
  rw [← st_of (st a ++ st b), ByteArray.data_append, Array.toList_append, st_data, st_data]
def sgs (zs : List Int) : List Bs := zs.map pickS
theorem sgs_mem (zs : List Int) : ∀ p ∈ sgs zs, p ∈ SG := by
  intro p hp
  obtain ⟨z, _, rfl⟩ := List.mem_map.1 hp
  exact pick_mem z
theorem tm0 (k : Nat) : (((2 * k : Nat) : Int).tmod 2) = 0 := by
  have h := Int.ofNat_tmod (2 * k) 2
  rw [show 2 * k % 2 = 0 by omega] at h
  exact h.symm
theorem tm1 (k : Nat) : (((2 * k + 1 : Nat) : Int).tmod 2) = 1 := by
  have h := Int.ofNat_tmod (2 * k + 1) 2
  rw [show (2 * k + 1) % 2 = 1 by omega] at h
  exact h.symm
theorem text_snoc (q : Bool) (ps : List Bs) (p : Bs) : textL q (ps ++ [p]) = textL q ps ++ (p ++ 32 :: (if q then [119, 32] else [])) := by simp [textL]
/-- the loop that builds the text. -/
def bdRel (W : World) (q : Bool) (zs : List Int) (sv nv iv : Value) (wr : World) : Prop :=
  ∃ (i : Nat) (x : ByteArray), iv = .int .i64 i ∧ nv = .int .i64 i ∧ sv = .string x ∧ x = st (textL q (sgs (zs.take i))) ∧ i ≤ zs.length ∧ i ≤ 100 ∧ Fr (fun _ => False) W wr ∧ (∃ g, W.heap.size ≤ g ∧ True)
def ckRel (W w0 : World) (q : Bool) (N m : Nat) (kv iv : Value) (wr : World) : Prop :=
  ∃ (i k : Nat), iv = .int .i64 i ∧ kv = .int .i64 k ∧ i ≤ N ∧ (if q then 2 * k = i ∨ 2 * k = i + 1 else k = i) ∧ Fr (fun _ => False) w0 wr
set_option maxRecDepth 100000 in
set_option maxHeartbeats 16000000 in
theorem signs_any (p : Option Addr) (len cap : Nat) (zs : List Int) (q : Bool) (W : World) (hz : InInts W p len zs) (hl : len ≤ maxLen) :
    Calls Try.prog 6 #[.slice p len cap, .bool q] W fun e w' => e = .returned (.bool true) ∧ Below W.heap.size W w' := by
  have HS := Lib.hid shown_any
  have HL := Lib.hid (fun w => rSigns_any w)
  have HZ := Lib.hid hz
  have hlen := hz.1
  subst hlen
  clear hz
  unfold maxLen at hl
  go_enter Try.func6, Try.ntmps6
  go_upto_region 3 with (first
    | (go_at_call 7; (with_reducible refine (HS.out _).mono ?_); rintro e w1 ⟨rfl, hF1⟩; have HF1 := Lib.hid hF1; clear hF1)
    | (go_at_call 13; (with_reducible refine (HL.out _).mono ?_); rintro e w2 ⟨rfl, rfl⟩))
  have HB2 := Lib.hid (show (w1.alloc (.cells sgV 9)).heap[w1.heap.size]? = some (.cells sgV 9 (0, 0)) from heap_alloc_new w1 _)
  have HF2 := Lib.hid (HF1.out.alloc (.cells sgV 9))
  generalize w1.alloc (.cells sgV 9) = w2 at *
  generalize w1.heap.size = G at *
  have HCELL := Lib.hid (fun wr (hF : Fr (fun _ => False) w2 wr) (z : Int) => (show wr.cell? ⟨G, ix z, none⟩ = some (.string (st (pickS z))) from by
    rw [Lib.cell_of_heap ((hF.block G (heap_lt HB2.out) id).trans HB2.out)]
    exact sgV_get (ix z) (by have := (ix_eq z).2; omega)))
  go_wp2
  go_loopw [7, 8, 9] (fun sv nv iv wr => ∃ (i : Nat) (x : ByteArray), iv = .int .i64 i ∧ nv = .int .i64 i ∧ sv = .string x ∧ x = st (textL q (sgs (zs.take i))) ∧ i ≤ zs.length ∧ i ≤ 100 ∧ Fr (fun _ => False) w2 wr) (fun _ _ iv _ => 100 - (intOf iv).toNat)
  case atStart => exact ⟨0, _, rfl, rfl, rfl, rfl, Nat.zero_le _, by omega, Fr.refl _ _⟩
  case round =>
    obtain ⟨i, x, rfl, rfl, rfl, hx, hi, hi100, hF⟩ := hrel
    have hxs : x.size ≤ 500 := by
      rw [hx, st_size]
      have h1 := text_len q (sgs (zs.take i)) (sgs_mem _)
      have h2 : (sgs (zs.take i)).length ≤ 100 := by simp [sgs]; omega
      omega
    have HX := Lib.hid hx
    have HF := Lib.hid hF
    by_cases hlt : i < zs.length ∧ i < 100
    · obtain ⟨hlt1, hlt2⟩ := hlt
      obtain ⟨g, off, rfl, hcz, hwf⟩ := HZ.out.2 i zs[i] (List.getElem?_eq_getElem hlt1)
      have hc := (HF2.out.trans hF).cell hcz id
      have hc2 := HCELL.out wr hF zs[i]
      have e1 := (ix_eq zs[i]).1
      have e2 := mask15b _ (ix_eq zs[i]).2
      have e3 := (ix_eq zs[i]).2
      have HT := Lib.hid (show textL q (sgs (zs.take (i + 1))) = textL q (sgs (zs.take i)) ++ (pickS zs[i] ++ 32 :: (if q then [119, 32] else [])) from by
        rw [List.take_succ_eq_append_getElem hlt1, sgs, List.map_append, List.map_singleton, text_snoc]; rfl)
      have hps : (st (pickS zs[i])).size ≤ 2 := by
        rw [st_size]
        have := pick_mem zs[i]
        generalize pickS zs[i] = y at *
        unfold SG at this
        simp only [List.mem_cons, List.not_mem_nil, or_false] at this
        rcases this with rfl | rfl | rfl | rfl | rfl | rfl | rfl | rfl | rfl | rfl | rfl | rfl | rfl | rfl | rfl | rfl <;> decide
      clear hcz hwf hx hF
      generalize hpk : pickS zs[i] = y at *
      generalize zs[i] = z at *
      generalize hkk : ix z = k at *
      cases q with
      | false =>
        go_wp2
        go_roundw
        case rel => exact ⟨i + 1, _, by go_num, by go_num, rfl, by rw [HT.out, HX.out, show (⟨#[32]⟩ : ByteArray) = st [32] from rfl, st_app, st_app]; simp, hlt1, hlt2, HF.out⟩
        case measure => simp [intOf]; omega
      | true =>
        go_wp2
        go_roundw
        case rel => exact ⟨i + 1, _, by go_num, by go_num, rfl, by rw [HT.out, HX.out, show (⟨#[32]⟩ : ByteArray) = st [32] from rfl, show (⟨#[119, 32]⟩ : ByteArray) = st [119, 32] from rfl, st_app, st_app, st_app]; simp, hlt1, hlt2, HF.out⟩
        case measure => simp [intOf]; omega
    · skip
      have hpl : (sgs (zs.take i)).length = i := by simp [sgs]; omega
      obtain ⟨toks, e, hA, hmap⟩ := allA_text q (sgs (zs.take i)) (sgs_mem _) (by omega)
      have hwl := want_len q (sgs (zs.take i))
      have htl : toks.length = (wantL q (sgs (zs.take i))).length := by rw [← hmap, List.length_map]
      rw [hpl] at hwl
      rw [hwl] at htl
      have HC := Lib.hid (fun w => pAll_ok x (toks ++ [e]) (by unfold maxLen; omega) (by simp) (by rw [hx, st_data]; exact hA) w)
      have HTS := Lib.hid (fun (j : Nat) (c : Int) (y : Bs) (h : (wantL q (sgs (zs.take i)))[j]? = some (c, y)) => (show ∃ hj : j < (toks ++ [e]).length, (toks ++ [e])[j].kind = c ∧ (toks ++ [e])[j].text = y from by
        rw [← hmap, List.getElem?_map] at h
        have hj : j < toks.length := by
          refine Nat.lt_of_not_le fun hn => ?_
          rw [List.getElem?_eq_none hn] at h
          cases h
        rw [List.getElem?_eq_getElem hj] at h
        injection h with h
        injection h with h1 h2
        refine ⟨by simp; omega, ?_⟩
        rw [List.getElem_append_left hj]
        exact ⟨h1, h2⟩))
      have hlen1 : (toks ++ [e]).length ≤ (if q then 2 * i else i) + 1 := by rw [List.length_append, htl]; simp
      have hlen2 : (if q then 2 * i else i) + 1 ≤ (toks ++ [e]).length := by rw [List.length_append, htl]; simp
      have HPS := Lib.hid (fun (k : Nat) (hk : k < i) => (show ∃ h : k < (sgs (zs.take i)).length, ∃ h2 : k < zs.length, (sgs (zs.take i))[k] = pickS zs[k] from by
        refine ⟨by omega, by omega, ?_⟩
        simp [sgs]))
      clear hA hmap hwl htl hx hpl
      generalize toks ++ [e] = ts at *
      cases q
      case false =>
        simp only [if_true, Bool.false_eq_true, if_false] at hlen1 hlen2
        have gl : ((((ts.length : Nat) : Int) != ((i : Nat) : Int) + 1) : Bool) = false := by rw [bne_eq_false_iff_eq]; omega
        have hguard : i < zs.length → ¬ i < 100 := fun h1 h2 => hlt ⟨h1, h2⟩
        by_cases h1 : i < zs.length
        all_goals
          go_wp2_with (go_at_call 9; (with_reducible refine (HC.out _).mono ?_); rintro e w3 ⟨g, cap, rfl, hr, hg1, hg2, hcap, hF3⟩; have HR3 := Lib.hid hr; have HF3 := Lib.hid (HF.out.trans hF3); clear hr hF3 hg1 hg2)
          go_loopw [13, 14, 15, 16] (fun kv jv _ _ wr => ∃ (j k : Nat), jv = .int .i64 j ∧ kv = .int .i64 k ∧ j ≤ i ∧ k = j ∧ Fr (fun _ => False) w3 wr) (fun _ jv _ _ _ => i - (intOf jv).toNat)
          case atStart => exact ⟨0, 0, rfl, rfl, Nat.zero_le _, rfl, Fr.refl _ _⟩
          case round =>
            obtain ⟨j, k, rfl, rfl, hj, hjk, hF4⟩ := hrel
            have HF4 := Lib.hid hF4
            have HR4 := Lib.hid (HR3.out.fr hF4 (fun _ _ => id))
            by_cases hjlt : j < i
            · subst hjk
              obtain ⟨hk1, hk2, hpk⟩ := HPS.out k (by omega)
              obtain ⟨hjl, hkind, htext⟩ := HTS.out k 2 (pickS zs[k]) (by rw [want_plain _ _ hk1, hpk])
              obtain ⟨q0, q1, _⟩ := row_cell HR4.out k hjl
              rw [hkind] at q0
              rw [htext] at q1
              obtain ⟨gz, off, rfl, hcz, _⟩ := HZ.out.2 k zs[k] (List.getElem?_eq_getElem hk2)
              have hc := ((HF2.out.trans HF3.out).trans hF4).cell hcz id
              have hc2 := HCELL.out wr (HF3.out.trans hF4) zs[k]
              have e1 := (ix_eq zs[k]).1
              have e2 := mask15b _ (ix_eq zs[k]).2
              have e3 := (ix_eq zs[k]).2
              clear hcz hpk hkind htext hF4
              generalize st (pickS zs[k]) = y at *
              generalize zs[k] = z at *
              generalize ix z = kk at *
              go_wp2
              go_roundw
              case rel => exact ⟨k + 1, k + 1, by go_num, by go_num, by omega, rfl, HF4.out⟩
              case measure => simp [intOf]; omega
            · obtain rfl : j = i := by omega
              clear hF4
              go_wp2
              go_ret
              exact ⟨rfl, ((HF2.out.trans HF3.out).trans HF4.out).bel (fun _ h => h.elim) (Nat.le_refl _)⟩
      case true =>
        simp only [if_true, Bool.false_eq_true, if_false] at hlen1 hlen2
        have gl : ((((ts.length : Nat) : Int) != 2 * ((i : Nat) : Int) + 1) : Bool) = false := by rw [bne_eq_false_iff_eq]; omega
        have hguard : i < zs.length → ¬ i < 100 := fun h1 h2 => hlt ⟨h1, h2⟩
        by_cases h1 : i < zs.length
        all_goals
          go_wp2_with (go_at_call 9; (with_reducible refine (HC.out _).mono ?_); rintro e w3 ⟨g, cap, rfl, hr, hg1, hg2, hcap, hF3⟩; have HR3 := Lib.hid hr; have HF3 := Lib.hid (HF.out.trans hF3); clear hr hF3 hg1 hg2)
          go_loopw [13, 14, 15, 16] (fun kv jv _ _ wr => ∃ (j k : Nat), jv = .int .i64 j ∧ kv = .int .i64 k ∧ j ≤ 2 * i ∧ (2 * k = j ∨ 2 * k = j + 1) ∧ Fr (fun _ => False) w3 wr) (fun _ jv _ _ _ => 2 * i - (intOf jv).toNat)
          case atStart => exact ⟨0, 0, rfl, rfl, Nat.zero_le _, .inl rfl, Fr.refl _ _⟩
          case round =>
            obtain ⟨j, k, rfl, rfl, hj, hjk, hF4⟩ := hrel
            have HF4 := Lib.hid hF4
            have HR4 := Lib.hid (HR3.out.fr hF4 (fun _ _ => id))
            by_cases hjlt : j < 2 * i
            · rcases hjk with hjk | hjk
              · obtain rfl : j = 2 * k := by omega
                obtain ⟨hk1, hk2, hpk⟩ := HPS.out k (by omega)
                obtain ⟨hjl, hkind, htext⟩ := HTS.out (2 * k) 2 (pickS zs[k]) (by rw [(want_words _ _ hk1).1, hpk])
                obtain ⟨q0, q1, _⟩ := row_cell HR4.out (2 * k) hjl
                rw [hkind] at q0
                rw [htext] at q1
                obtain ⟨gz, off, rfl, hcz, _⟩ := HZ.out.2 k zs[k] (List.getElem?_eq_getElem hk2)
                have hc := ((HF2.out.trans HF3.out).trans hF4).cell hcz id
                have hc2 := HCELL.out wr (HF3.out.trans hF4) zs[k]
                have e1 := (ix_eq zs[k]).1
                have e2 := mask15b _ (ix_eq zs[k]).2
                have e3 := (ix_eq zs[k]).2
                clear hcz hpk hkind htext hF4
                generalize st (pickS zs[k]) = y at *
                generalize zs[k] = z at *
                generalize ix z = kk at *
                have gp : ((((2 * k : Nat) : Int).tmod 2 == 0) : Bool) = true := by rw [beq_iff_eq]; exact tm0 k
                have gp2 : (((2 * (k : Int)).tmod 2 == 0) : Bool) = true := by rw [beq_iff_eq]; exact tm0 k
                go_wp2
                go_roundw
                case rel => exact ⟨2 * k + 1, k + 1, by go_num, by go_num, by omega, .inr (by omega), HF4.out⟩
                case measure => simp [intOf]; omega
              · obtain ⟨k0, rfl⟩ : ∃ k0, k = k0 + 1 := ⟨k - 1, by omega⟩
                obtain rfl : j = 2 * k0 + 1 := by omega
                obtain ⟨hk1, hk2, hpk⟩ := HPS.out k0 (by omega)
                obtain ⟨hjl, hkind, htext⟩ := HTS.out (2 * k0 + 1) 1 [119] (want_words _ _ hk1).2
                obtain ⟨q0, q1, _⟩ := row_cell HR4.out (2 * k0 + 1) hjl
                rw [hkind] at q0
                rw [htext, show st [119] = (⟨#[119]⟩ : ByteArray) from rfl] at q1
                clear hpk hkind htext hF4
                have gp : ((((2 * k0 + 1 : Nat) : Int).tmod 2 == 0) : Bool) = false := by rw [beq_eq_false_iff_ne, tm1 k0]; decide
                have gp2 : (((2 * (k0 : Int) + 1).tmod 2 == 0) : Bool) = false := by rw [show (2 * (k0 : Int) + 1) = ((2 * k0 + 1 : Nat) : Int) by omega, beq_eq_false_iff_ne, tm1 k0]; decide
                go_wp2
                go_roundw
                case rel => exact ⟨2 * k0 + 1 + 1, k0 + 1, by go_num, rfl, by omega, .inl (by omega), HF4.out⟩
                case measure => simp [intOf]; omega
            · obtain rfl : j = 2 * i := by omega
              clear hF4
              go_wp2
              go_ret
              exact ⟨rfl, ((HF2.out.trans HF3.out).trans HF4.out).bel (fun _ h => h.elim) (Nat.le_refl _)⟩
end Go.Proofs.Ytmkcenobghaoiaa
