/- A function's beginning; a redirection. -/
import Derived.Test.YtoahgblgchmclaaPJ
namespace Go.Proofs.Ytoahgblgchmclaa
open Go.RowKit
set_option linter.unusedVariables false
set_option linter.unusedSimpArgs false
section
variable {W W' : World} {n p g cap : Nat} {K : Nat → Prop} {all : List Tk} {nv : Value} {s : S}
theorem bFun_any (h : PM W n K p g cap all nv s) :
    Calls Try.prog 62 #[.pointer (some ⟨p, 0, none⟩)] W fun e w' => e = .returned (.bool s.bFun) ∧ Fr (fun _ => False) W w' := by
  have HN := Lib.hid (next_any h)
  have HI := Lib.hid (fun w => isName_any s.hd.text h.x.inv.hd_len w)
  have HR := Lib.hid (fun w => isRes_any s.hd.text w)
  have HV := Lib.hid (show s.bFun = (isNm s.hd.text && (!isRes s.hd.text && (s.ts.tail.headD endT).text == [40])) from rfl)
  obtain ⟨l0, l1, l2, l3, l4, l5, l6⟩ := h.x.facts
  have hpos : p < W.heap.size := heap_lt h.cell
  cases hb : isNm s.hd.text with
  | false =>
    rw [hb] at HI HV
    clear h hb
    go_enter Try.func62, Try.ntmps62
    go_wp2_with (first | (refine wpList_field rfl _ _ rfl _ _ _ rfl _ rfl ?_) | (go_at_call 74; (with_reducible refine (HI.out _).mono ?_); rintro e w9 ⟨rfl, rfl⟩) | (go_at_call 25; (with_reducible refine HN.out.mono ?_); rintro e w1 ⟨rfl, hF1⟩; have HF1 := Lib.hid hF1; clear hF1))
    go_ret
    exact ⟨ret_bool (by rw [HV.out]; rfl), HF1.out⟩
  | true =>
    rw [hb] at HI HV
    cases hr : isRes s.hd.text with
    | true =>
      rw [hr] at HR HV
      clear h hb hr
      go_enter Try.func62, Try.ntmps62
      go_wp2_with (first | (refine wpList_field rfl _ _ rfl _ _ _ rfl _ rfl ?_) | (go_at_call 74; (with_reducible refine (HI.out _).mono ?_); rintro e w9 ⟨rfl, rfl⟩) | (go_at_call 50; (with_reducible refine (HR.out _).mono ?_); rintro e w8 ⟨rfl, rfl⟩) | (go_at_call 25; (with_reducible refine HN.out.mono ?_); rintro e w1 ⟨rfl, hF1⟩; have HF1 := Lib.hid hF1; clear hF1))
      go_ret
      exact ⟨ret_bool (by rw [HV.out]; rfl), HF1.out⟩
    | false =>
      rw [hr] at HR HV
      obtain ⟨u, r, hu⟩ : ∃ u r, s.ts = s.hd :: u :: r := by
        rcases h.x.inv.next with ⟨_, h1, _⟩ | ⟨_, u, r, h1, _⟩
        · exact absurd h1 (isNm_ne hb)
        · exact ⟨u, r, h1⟩
      have hu2 : (s.ts.tail.headD endT) = u := by rw [hu]; rfl
      rw [hu2] at HV
      have hl2 : 2 ≤ s.ts.length := by rw [hu]; simp
      obtain ⟨-, k1, -⟩ := h.x.tok 1 u (by rw [hu]; rfl)
      rw [Nat.one_mul] at k1
      have hst : (((st u.text).toList == [40]) : Bool) = (u.text == [40]) := by rw [st_toList]
      obtain ⟨c0, -, -, -, -, -⟩ := h.cells
      clear h hb hr hu hu2
      generalize (u.text == [40]) = b at *
      go_enter Try.func62, Try.ntmps62
      go_wp2_with (first | (refine wpList_field rfl _ _ rfl _ _ _ rfl _ rfl ?_) | (go_at_call 74; (with_reducible refine (HI.out _).mono ?_); rintro e w9 ⟨rfl, rfl⟩) | (go_at_call 50; (with_reducible refine (HR.out _).mono ?_); rintro e w8 ⟨rfl, rfl⟩) | (go_at_call 25; (with_reducible refine HN.out.mono ?_); rintro e w1 ⟨rfl, hF1⟩; have d0 := hF1.cell c0 id; have q1 := hF1.cell k1 id; have HF1 := Lib.hid hF1; clear hF1 c0 k1))
      go_ret
      exact ⟨ret_bool (by rw [HV.out]; simp), HF1.out⟩
/-- a local block is stored to. -/
theorem PM.loc {w : World} {T j : Nat} {v : Value} {c o : Int} {s' : S} (h : PM W n K p g cap all nv s) (hi : PM w n K p g cap all nv s') (f : Fr (· = p) W w) (hc : c ≤ 0) (hs : St c o s s') (hn : s'.ns = s.ns) (hT : W.heap.size ≤ T) : PM (w.setCell ⟨T, j, none⟩ v) n K p g cap all nv s' :=
  h.step (o := o) (hs.le hc) hn (f.setCell (p := ⟨T, j, none⟩) (.inr hT) v) (by
    have hne : ¬ T = p := by have := heap_lt h.cell; omega
    exact (((Fr.refl (· = T) w).setCell (p := ⟨T, j, none⟩) (.inl rfl) v).block p (heap_lt hi.cell) (fun e => hne e.symm)).trans hi.cell)
theorem PM.alc {w : World} {O : Obj} (hi : PM w n K p g cap all nv s) : PM (w.alloc O) n K p g cap all nv s := hi.fr ((Fr.refl _ _).alloc O)
end
end Go.Proofs.Ytoahgblgchmclaa
