/- The document's reader: take. -/
import Derived.Test.YtbmnngliapmgfaaGreatDoorCG
namespace Go.Proofs.YtbmnngliapmgfaaGreatDoor
open Go.RowKit
set_option linter.unusedVariables false
set_option linter.unusedSimpArgs false
theorem st_same (g t : Bs) : ((st g).toList == (st t).toList) = decide (g = t) := by
  rw [eq_list]
  by_cases h : g = t
  · rw [h]; simp
  · have : ¬ st g = st t := fun e => h (by rw [← st_data g, e, st_data])
    simp [h, this]
def takePost (W : World) (p : Nat) (s : ByteArray) (k d : Nat) (gv sv : Value) (form : Bool) (err : Int) (t : Bs) (e : Ending) (w' : World) : Prop :=
  ∃ j, e = .returned (.bool (decide (sgR (s.data.toList.drop j) = t))) ∧ RD w' p s (if sgR (s.data.toList.drop j) = t then j + t.length else j) d gv sv form err ∧ Fr (· = p) W w' ∧ k ≤ j ∧ j ≤ s.size ∧ s.data.toList.drop j = trimB (s.data.toList.drop k)
set_option maxHeartbeats 2000000 in
theorem rtake_any (W : World) (p : Nat) (s : ByteArray) (k d : Nat) (gv sv : Value) (form : Bool) (err : Int) (t : Bs) (htl : t.length ≤ 3) (hk : k ≤ s.size) (hs : s.size ≤ 256) (h : RD W p s k d gv sv form err) :
    Calls Tryz.prog 29 #[.pointer (some ⟨p, 0, none⟩), .string (st t)] W (takePost W p s k d gv sv form err t) := by
  have HB := Lib.hid (rsign_any W p s k d gv sv form err hk hs h)
  have hst := st_size t
  clear h
  go_enter Tryz.func29, Tryz.ntmps29
  go_upto_region 2 with (first
    | (go_at_call 15; (with_reducible refine HB.out.mono ?_); rintro e w1 ⟨j, rfl, hR, hF, hkj, hj, ht⟩
       have HT := Lib.hid ht
       clear ht
       generalize hg : sgR (s.data.toList.drop j) = g
       have HG := Lib.hid hg
       clear hg
       have hq := st_same g t))
  obtain ⟨c0, c1, c2, c3, c4, c5, c6, fz⟩ := hR.cells
  have HR := Lib.hid hR
  have HF := Lib.hid hF
  have f1 := fz 1
  clear c0 c2 c3 c4 c5 c6 fz hR hF HB
  by_cases he : g = t
  · have hd : decide (g = t) = true := by simpa using he
    have HE := Lib.hid he
    clear he
    go_wp2
    all_goals first
      | (go_ret
         refine ⟨j, ?_, ?_, HF.out.setCell (p := ⟨p, 1, none⟩) (.inl rfl) _, hkj, hj, HT.out⟩
         · rw [HG.out, HE.out]; simp
         · rw [HG.out, if_pos HE.out]; exact HR.out.setAt (j + t.length))
  · have hd : decide (g = t) = false := by simpa using he
    have HE := Lib.hid he
    clear he
    go_wp2
    all_goals first
      | (go_ret
         refine ⟨j, ?_, ?_, HF.out, hkj, hj, HT.out⟩
         · rw [HG.out]; simp [HE.out]
         · rw [HG.out, if_neg HE.out]; exact HR.out)
end Go.Proofs.YtbmnngliapmgfaaGreatDoor
