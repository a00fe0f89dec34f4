/- A file without its last byte: plain facts. -/
import Derived.Test.YtjopmchbphjliaaDoorK2
import Derived.Test.YtjopmchbphjliaaDoorH1
import Derived.Test.YtjopmchbphjliaaDoorC1
import Derived.Test.YtjopmchbphjliaaDoorE1
namespace Go.Proofs.YtjopmchbphjliaaDoor
open Go.RowKit Go.Shelf

theorem lines_one : ∀ l : List UInt8, l ≠ [] → (∀ c ∈ l, c ≠ 10) → linesS l = [l]
  | [], h, _ => absurd rfl h
  | [c], _, h => by rw [linesS, if_neg (h c (by simp))]; rfl
  | c :: d :: r, _, h => by
    have ih := lines_one (d :: r) (by simp) (fun x hx => h x (by simp [hx]))
    rw [linesS, if_neg (h c (by simp)), ih]
theorem rightF_prefix : ∀ (a b seen : List Usr), rightF seen (a ++ b) = true → rightF seen a = true
  | [], _, _, _ => by rw [rightF]
  | u :: a, b, seen, h => by
    rw [List.cons_append, rightF, Bool.and_eq_true, Bool.and_eq_true] at h
    rw [rightF, h.1, h.2.1, rightF_prefix a b _ h.2.2]; rfl
theorem core_some (u : Usr) : coreS u ≠ [] := by
  unfold coreS fieldsS
  rw [join6]
  simp
theorem linesOf_snoc (us : List Usr) (u : Usr) : linesOf (us ++ [u]) = linesOf us ++ coreS u ++ [10] := by
  unfold linesOf
  rw [List.map_append, List.flatten_append, List.map_cons, List.map_nil, List.flatten_cons, List.flatten_nil, List.append_nil, line_core, List.append_assoc]
theorem parse_cut {us : List Usr} (h : rightL us = true) (h0 : us ≠ []) (s t : ByteArray) (hs : s.data.toList = linesOf us) (ht : t.data.toList = s.data.toList.take (s.size - 1)) : parseR t = ([], us.length, 17) := by
  obtain ⟨h8, hall⟩ := rightL_parts h
  have hl := linesOf_len us hall
  have hf : rightF [] us = true := by unfold rightL at h; rw [Bool.and_eq_true] at h; exact h.2
  have hsz : s.size = (linesOf us).length := by rw [← size_len, hs]
  rcases List.eq_nil_or_concat us with e | ⟨a, u, rfl⟩
  · exact absurd e h0
  rw [List.concat_eq_append] at *
  have ht2 : t.data.toList = linesOf a ++ coreS u := by
    rw [ht, hs, hsz, linesOf_snoc, ← List.dropLast_eq_take, List.dropLast_concat]
  have htl : t.size ≤ 4096 := by
    rw [← size_len, ht2]
    rw [linesOf_snoc] at hl
    rw [List.length_append, List.length_singleton] at hl
    omega
  unfold parseR
  rw [if_neg (by omega)]
  have hu := hall u (by simp)
  have hls : (linesB t).map (·.data.toList) = a.map lineS ++ [coreS u] := by
    rw [linesB_data, ht2, lines_of a _ (fun x hx => hall x (by simp [hx])), lines_one _ (core_some u) (core_ten hu)]
  obtain ⟨l1, l2, he, m1, m2⟩ := List.map_eq_append_iff.1 hls
  rw [he, goU_complete l1 [] a l2 (rightF_prefix a _ _ hf) (by simp at h8 ⊢; omega) m1, List.nil_append]
  match l2, m2 with
  | [x], m2 =>
    simp only [List.map_cons, List.map_nil, List.cons.injEq, and_true] at m2
    have hx : userS x = none := no_user (by
      rw [m2]
      intro hh
      exact core_ten hu 10 (List.mem_of_getLast? hh) rfl)
    have hn : nextS a x = (noUsr, 17) := by unfold nextS; rw [hx]
    rw [goU, hn, if_neg (by decide)]
    simp
  | [], m2 => simp at m2
  | _ :: _ :: _, m2 => simp at m2
end Go.Proofs.YtjopmchbphjliaaDoor
