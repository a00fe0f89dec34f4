/- The document's reader: name. -/
import Derived.Test.YtbmnngliapmgfaaGreatDoorCI
import Derived.Test.YtbmnngliapmgfaaGreatDoorCK
import Derived.Test.YtbmnngliapmgfaaGreatDoorBN
import Derived.Test.YtbmnngliapmgfaaGreatDoorCH
namespace Go.Proofs.YtbmnngliapmgfaaGreatDoor
open Go.RowKit
set_option linter.unusedVariables false
set_option linter.unusedSimpArgs false
theorem outC_len (o : Own) : (outC o).length = o.length * 4 := by
  induction o with
  | nil => rfl
  | cons p r ih => simp [outC] at ih ⊢; omega
theorem outC_at : ∀ (o : Own) (i : Nat) (p : Bs × Int), o[i]? = some p → (outC o)[i * 4]? = some (.string (st p.1)) ∧ (outC o)[i * 4 + 1]? = some (.string (st (Lib.itoa p.2))) := by
  intro o
  induction o with
  | nil => intro i p h; simp at h
  | cons q r ih =>
    intro i p h
    have e : outC (q :: r) = [.string (st q.1), .string (st (Lib.itoa q.2)), .bool false, .bool false] ++ outC r := rfl
    rw [e]
    cases i with
    | zero => simp at h; subst h; exact ⟨rfl, rfl⟩
    | succ i =>
      have := ih i p (by simpa using h)
      rw [List.getElem?_append_right (by simp; omega), List.getElem?_append_right (by simp; omega)]
      simp only [List.length_cons, List.length_nil]
      rw [show (i + 1) * 4 - (0 + 1 + 1 + 1 + 1) = i * 4 by omega, show (i + 1) * 4 + 1 - (0 + 1 + 1 + 1 + 1) = i * 4 + 1 by omega]
      exact this
/-- the rows that were set, in a row of their own. -/
def SetR (W : World) (B : Nat) (sv : Value) (o : Own) : Prop := W.ownsRow B 29 4 sv o.length (outC o)
theorem SetR.fr {S : Nat → Prop} {W W' : World} {B : Nat} {v : Value} {o : Own} (h : SetR W B v o) (f : Fr S W W') (hs : ∀ k, B ≤ k → ¬ S k) : SetR W' B v o := by
  refine ⟨h.1, ?_⟩
  rcases h.2 with hn | ⟨g, cap, cur, rfl, hb, hg, rest⟩
  · exact .inl hn
  · exact .inr ⟨g, cap, cur, rfl, hb, (f.block g (heap_lt hg) (hs g hb)).trans hg, rest⟩
theorem SetR.slice {W : World} {B : Nat} {v : Value} {o : Own} (h : SetR W B v o) : ∃ ao cap, v = .slice ao o.length cap ∧ o.length ≤ cap ∧ cap ≤ maxLen := by
  rcases h.2 with ⟨rfl, h0⟩ | ⟨g, cap, cur, rfl, _, _, hc, hm, _⟩
  · exact ⟨_, _, by rw [h0], by omega, Nat.zero_le _⟩
  · exact ⟨_, _, rfl, hc, hm⟩
theorem SetR.at {W : World} {B : Nat} {v : Value} {o : Own} (h : SetR W B v o) (i : Nat) (p : Bs × Int) (hp : o[i]? = some p) :
    ∃ g cap, v = .slice (some ⟨g, 0, none⟩) o.length cap ∧ B ≤ g ∧ W.cell? ⟨g, i * 4, none⟩ = some (.string (st p.1)) ∧ W.cell? ⟨g, i * 4 + 1, none⟩ = some (.string (st (Lib.itoa p.2))) := by
  have hi : i < o.length := (List.getElem?_eq_some_iff.1 hp).1
  obtain ⟨a, b⟩ := outC_at o i p hp
  have hl : (outC o).length = o.length * 4 := outC_len o
  have h' := h
  rcases h.2 with ⟨rfl, h0⟩ | ⟨g, cap, cur, rfl, hb, _⟩
  · omega
  · refine ⟨g, cap, rfl, hb, ?_, ?_⟩
    · rw [← a]; exact World.ownsRow.cellAt h' (i * 4) (show i * 4 < o.length * 4 by omega)
    · rw [← b]; exact World.ownsRow.cellAt h' (i * 4 + 1) (show i * 4 + 1 < o.length * 4 by omega)
/-- the last one counts, above a text that was there. -/
def updO (n : Bs) : Bs → Own → Bs
  | v, [] => v
  | v, p :: r => updO n (if p.1 = n then Lib.itoa p.2 else v) r
theorem findO_none {n : Bs} : ∀ {o : Own}, n ∉ o.map Prod.fst → findO o n = none
  | [], _ => rfl
  | p :: r, h => by
    simp only [List.map_cons, List.mem_cons, not_or] at h
    rw [findO, if_neg (fun e => h.1 e.symm), findO_none h.2]
theorem updO_none {n : Bs} : ∀ {o : Own} (v : Bs), n ∉ o.map Prod.fst → updO n v o = v
  | [], _, _ => rfl
  | p :: r, v, h => by
    simp only [List.map_cons, List.mem_cons, not_or] at h
    rw [updO, if_neg (fun e => h.1 e.symm), updO_none _ h.2]
def UQ (o : Own) : Prop := (o.map Prod.fst).Nodup
theorem updO_find {n : Bs} : ∀ {o : Own} (v : Bs), UQ o → updO n v o = match findO o n with
    | some x => Lib.itoa x
    | none => v
  | [], _, _ => rfl
  | p :: r, v, h => by
    unfold UQ at h
    rw [List.map_cons, List.nodup_cons] at h
    rw [updO, findO]
    by_cases e : p.1 = n
    · rw [if_pos e, if_pos e, updO_none _ (by rw [← e]; exact h.1)]
    · rw [if_neg e, if_neg e, updO_find v h.2]
theorem setV_names : ∀ (o : Own) (n : Bs) (v : Int), (setV o n v).map Prod.fst = if n ∈ o.map Prod.fst then o.map Prod.fst else o.map Prod.fst ++ [n]
  | [], n, v => rfl
  | p :: r, n, v => by
    rw [setV]
    by_cases e : p.1 = n
    · rw [if_pos e, if_pos (by simp [e])]; rfl
    · rw [if_neg e, List.map_cons, setV_names r n v, List.map_cons]
      by_cases h : n ∈ r.map Prod.fst
      · rw [if_pos h, if_pos (by simp [h])]
      · rw [if_neg h, if_neg (by simp only [List.mem_cons, not_or]; exact ⟨fun h2 => e h2.symm, h⟩), List.cons_append]
theorem UQ.set {o : Own} (h : UQ o) (n : Bs) (v : Int) : UQ (setV o n v) := by
  unfold UQ at h ⊢
  rw [setV_names]
  split
  · exact h
  · rename_i hn
    rw [List.nodup_append]
    exact ⟨h, by simp, fun a ha b hb => by simp at hb; subst hb; exact fun e => hn (e ▸ ha)⟩
/-- the text of a name. -/
def txtV (g : List (Bs × Bs)) (o : Own) (n : Bs) : Bs := updO n ((findG g n).getD []) o
theorem txt_get (g : List (Bs × Bs)) (o : Own) (n : Bs) (hu : UQ o) (hr : ∀ p ∈ o, I64 p.2) : numV (txtV g o n) = getV g o n := by
  unfold txtV getV
  rw [updO_find _ hu]
  cases ho : findO o n with
  | some x =>
    have hx : I64 x := by
      have : ∀ o : Own, findO o n = some x → ∃ p ∈ o, p.2 = x := by
        intro o
        induction o with
        | nil => intro h; cases h
        | cons p r ih =>
          intro h
          rw [findO] at h
          split at h
          · cases h; exact ⟨p, by simp, rfl⟩
          · obtain ⟨q, hq, he⟩ := ih h
            exact ⟨q, by simp [hq], he⟩
      obtain ⟨p, hp, rfl⟩ := this o ho
      exact hr p hp
    exact numV_itoa x hx
  | none =>
    cases findG g n with
    | some t => rfl
    | none => rfl
/-- the given ones from above: the lowest one counts. -/
theorem findG_down {g : List (Bs × Bs)} {j : Nat} {p : Bs × Bs} {n : Bs} (h : g[j]? = some p) : findG (g.drop j) n = if p.1 = n then some p.2 else findG (g.drop (j + 1)) n := by
  have hj := (List.getElem?_eq_some_iff.1 h).1
  rw [List.drop_eq_getElem_cons hj, findG, (List.getElem?_eq_some_iff.1 h).2]
end Go.Proofs.YtbmnngliapmgfaaGreatDoor
