/- Parse's answers as the laws see them: cells of nodes; what must be in any case. -/
import Derived.Test.YtoahgblgchmclaaQD
namespace Go.Proofs.Ytoahgblgchmclaa
open Go.RowKit
set_option linter.unusedVariables false
set_option linter.unusedSimpArgs false
theorem flat8 : ∀ (cs : List (List Value)) (ns : List Nd) (i : Nat) (c : List Value), (∀ (i : Nat) (c : List Value), cs[i]? = some c → c.length = 8) → cs[i]? = some c → ∀ j, j < 8 → cs.flatten[i * 8 + j]? = c[j]? := by
  intro cs ns
  induction cs with
  | nil => intro i c _ h; simp at h
  | cons a r ih =>
    intro i c hl h j hj
    have ha : a.length = 8 := hl 0 a rfl
    rw [List.flatten_cons]
    cases i with
    | zero =>
      simp at h; subst h
      rw [List.getElem?_append_left (by omega)]
      congr 1
      omega
    | succ i =>
      rw [List.getElem?_append_right (by omega), ha, show (i + 1) * 8 + j - 8 = i * 8 + j by omega]
      exact ih i c (fun i c h => hl (i + 1) c h) (by simpa using h) j hj
/-- the cells of a node. -/
theorem Nds.cell {W : World} {K : Nat → Prop} {v : Value} {ns : List Nd} {g cap : Nat} (h : Nds W K v ns) (hv : v = .slice (some ⟨g, 0, none⟩) ns.length cap) (i : Nat) (n : Nd) (hn : ns[i]? = some n) :
    ∃ sv wv rv pv kv, NdV W K (ndC n sv wv rv pv kv) n ∧ Strs W K sv n.sets ∧ Strs W K wv n.words ∧ Rds W K rv n.redirs ∧ Pats W K pv n.pats ∧ Ints W K kv n.kids ∧ ∀ j u, (ndC n sv wv rv pv kv)[j]? = some u → W.cell? ⟨g, i * 8 + j, none⟩ = some u := by
  subst hv
  obtain ⟨cs, h1, h2, h3⟩ := h
  have hi : i < ns.length := (List.getElem?_eq_some_iff.1 hn).1
  have hc : ∃ c, cs[i]? = some c := ⟨cs[i]'(by omega), List.getElem?_eq_getElem (by omega)⟩
  obtain ⟨c, hc⟩ := hc
  obtain ⟨sv, wv, rv, pv, kv, rfl, a1, a2, a3, a4, a5⟩ := h3 i c n hc hn
  refine ⟨sv, wv, rv, pv, kv, ⟨sv, wv, rv, pv, kv, rfl, a1, a2, a3, a4, a5⟩, a1, a2, a3, a4, a5, fun j u hu => ?_⟩
  have hj : j < 8 := by
    have := (List.getElem?_eq_some_iff.1 hu).1
    simpa [ndC] using this
  rw [h1.cellAt _ (show i * 8 + j < ns.length * 8 by omega), flat8 cs ns i _ (fun k d hd => ?_) hc j hj]
  · exact hu
  · have hk : k < cs.length := (List.getElem?_eq_some_iff.1 hd).1
    have : ∃ m, ns[k]? = some m := ⟨ns[k]'(by omega), List.getElem?_eq_getElem (by omega)⟩
    obtain ⟨m, hm⟩ := this
    obtain ⟨_, _, _, _, _, rfl, _⟩ := h3 k d m hd hm
    rfl
/-- Parse, where it answers nodes. -/
theorem parse_ok (s : ByteArray) (hs : s.size ≤ maxLen) (ns : List Nd) (h : parseA s.data.toList = (ns, 0, 0)) (hn : 0 < ns.length) (W : World) :
    Calls Try.prog 9 #[.string s] W fun e w' => ∃ g cap K, e = .returned (.tuple #[.slice (some ⟨g, 0, none⟩) ns.length cap, .int .i64 0, .int .i64 0]) ∧ Nds w' K (.slice (some ⟨g, 0, none⟩) ns.length cap) ns ∧ ns.length ≤ cap ∧ W.heap.size ≤ g ∧ (∀ k, K k → W.heap.size ≤ k) ∧ Fr (fun _ => False) W w' := by
  refine (parse_any s hs W).mono ?_
  rw [h]
  rintro e w' ⟨v, K, rfl, hN, hK, hv, hF⟩
  obtain ⟨cs, h1, _⟩ := id hN
  obtain ⟨ao, cap, rfl, hc, _, h5⟩ := ownz_form h1
  obtain ⟨g, rfl⟩ := h5 hn
  exact ⟨g, cap, K, rfl, hN, hc, hv g rfl, hK, hF⟩
/-- Parse, where it answers none. -/
theorem parse_bad (s : ByteArray) (hs : s.size ≤ maxLen) (k : Nat) (c : Int) (h : parseA s.data.toList = ([], k, c)) (W : World) :
    Calls Try.prog 9 #[.string s] W fun e w' => ∃ ao cap, e = .returned (.tuple #[.slice ao 0 cap, .int .i64 k, .int .i64 c]) ∧ Fr (fun _ => False) W w' := by
  refine (parse_any s hs W).mono ?_
  rw [h]
  rintro e w' ⟨v, K, rfl, ⟨cs, h1, _⟩, hK, hv, hF⟩
  obtain ⟨ao, cap, rfl, _⟩ := ownz_form h1
  exact ⟨ao, cap, rfl, hF⟩
def sa1 : ByteArray := ⟨#[97, 32, 124, 32, 98, 32, 38, 38, 32, 99, 32, 38]⟩
def sa2 : ByteArray := ⟨#[102, 40, 41, 32, 123, 32, 103, 59, 32, 125]⟩
def sa3 : ByteArray := ⟨#[97, 32, 124]⟩
def sa4 : ByteArray := ⟨#[97, 32, 41]⟩
def saN1 : List Nd := (parseA sa1.data.toList).1
def saN2 : List Nd := (parseA sa2.data.toList).1
theorem sa1_all : parseA sa1.data.toList = (saN1, 0, 0) := by kernel_rfl
theorem sa2_all : parseA sa2.data.toList = (saN2, 0, 0) := by kernel_rfl
theorem sa3_all : parseA sa3.data.toList = ([], 3, 23) := by kernel_rfl
theorem sa4_all : parseA sa4.data.toList = ([], 2, 17) := by kernel_rfl
theorem saN1_len : saN1.length = 7 := by kernel_rfl
theorem saN2_len : saN2.length = 3 := by kernel_rfl
theorem saN1_2 : (saN1.getD 2 (nd 0 [])).kind = 3 := by kernel_rfl
theorem saN1_6 : (saN1.getD 6 (nd 0 [])).kind = 6 := by kernel_rfl
theorem saN2_2 : (saN2.getD 2 (nd 0 [])).name = [102] := by kernel_rfl
theorem get_getD {l : List Nd} {i : Nat} (h : i < l.length) : l[i]? = some (l.getD i (nd 0 [])) := by
  rw [List.getD_eq_getElem?_getD, List.getElem?_eq_getElem h]; rfl
set_option maxHeartbeats 4000000 in
theorem pshown_any (W : World) : Calls Try.prog 8 #[] W fun e w' => e = .returned (.bool true) ∧ Fr (fun _ => False) W w' := by
  have C1 := Lib.hid (fun w => parse_ok sa1 (by decide) saN1 sa1_all (by rw [saN1_len]; decide) w)
  have C2 := Lib.hid (fun w => parse_ok sa2 (by decide) saN2 sa2_all (by rw [saN2_len]; decide) w)
  have C3 := Lib.hid (fun w => parse_bad sa3 (by decide) 3 23 sa3_all w)
  have C4 := Lib.hid (fun w => parse_bad sa4 (by decide) 2 17 sa4_all w)
  have gS : (((st [102]).toList == [102]) : Bool) = true := by rw [ByteArray.toList_eq]; rfl
  unfold sa1 at C1
  unfold sa2 at C2
  unfold sa3 at C3
  unfold sa4 at C4
  rw [saN1_len] at C1
  rw [saN2_len] at C2
  go_enter Try.func8, Try.ntmps8
  go_upto_region 5 with (first
    | (go_at_call 9; (with_reducible refine (C1.out _).mono ?_); rintro e w1 ⟨g1, cap1, K1, rfl, hr1, hc1, _, _, hF1⟩; have HR1 := Lib.hid hr1; have HF1 := Lib.hid hF1; clear hr1 hF1)
    | (go_at_call 9; (with_reducible refine (C2.out _).mono ?_); rintro e w2 ⟨g2, cap2, K2, rfl, hr2, hc2, _, _, hF2⟩; have HR1' := Lib.hid (HR1.out.keep hF2 (fun _ _ => id) (fun _ _ => id)); have HR2 := Lib.hid hr2; have HF2 := Lib.hid (HF1.out.trans hF2); clear hr2 hF2)
    | (go_at_call 9; (with_reducible refine (C3.out _).mono ?_); rintro e w3 ⟨ao3, cap3, rfl, hF3⟩; have HR1'' := Lib.hid (HR1'.out.keep hF3 (fun _ _ => id) (fun _ _ => id)); have HR2'' := Lib.hid (HR2.out.keep hF3 (fun _ _ => id) (fun _ _ => id)); have HF3 := Lib.hid (HF2.out.trans hF3); clear hF3)
    | (go_at_call 9; (with_reducible refine (C4.out _).mono ?_); rintro e w4 ⟨ao4, cap4, rfl, hF4⟩; have HR1t := Lib.hid (HR1''.out.keep hF4 (fun _ _ => id) (fun _ _ => id)); have HR2t := Lib.hid (HR2''.out.keep hF4 (fun _ _ => id) (fun _ _ => id)); have HF4 := Lib.hid (HF3.out.trans hF4); clear hF4))
  obtain ⟨_, _, _, _, _, _, _, _, _, _, _, k2⟩ := Nds.cell HR1t.out (by rw [saN1_len]) 2 _ (get_getD (by rw [saN1_len]; decide))
  obtain ⟨_, _, _, _, _, _, _, _, _, _, _, k6⟩ := Nds.cell HR1t.out (by rw [saN1_len]) 6 _ (get_getD (by rw [saN1_len]; decide))
  obtain ⟨_, _, _, _, _, _, _, _, _, _, _, m2⟩ := Nds.cell HR2t.out (by rw [saN2_len]) 2 _ (get_getD (by rw [saN2_len]; decide))
  have e1 : w4.cell? ⟨g1, 16, none⟩ = some (.int .i64 3) := by have := k2 0 _ rfl; rw [saN1_2] at this; exact this
  have e2 : w4.cell? ⟨g1, 48, none⟩ = some (.int .i64 6) := by have := k6 0 _ rfl; rw [saN1_6] at this; exact this
  have e3 : w4.cell? ⟨g2, 17, none⟩ = some (.string (st [102])) := by have := m2 1 _ rfl; rw [saN2_2] at this; exact this
  clear k2 k6 m2
  go_wp2
  go_ret
  exact ⟨rfl, HF4.out⟩
end Go.Proofs.Ytoahgblgchmclaa
