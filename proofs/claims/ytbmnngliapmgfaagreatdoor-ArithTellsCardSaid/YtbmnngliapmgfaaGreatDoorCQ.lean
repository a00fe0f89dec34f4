/- The document's reader: where the form is wrong already; too deep. -/
import Derived.Test.YtbmnngliapmgfaaGreatDoorCP
namespace Go.Proofs.YtbmnngliapmgfaaGreatDoor
open Go.RowKit
set_option linter.unusedVariables false
set_option linter.unusedSimpArgs false
def offPost (W : World) (p : Nat) (s : ByteArray) (k d : Nat) (gv sv : Value) (err : Int) (e : Ending) (w' : World) : Prop :=
  e = .returned (.int .i64 0) ∧ RD w' p s k (d + 1) gv sv true err ∧ Fr (· = p) W w'
theorem rsets_off (W : World) (p : Nat) (s : ByteArray) (k d : Nat) (gv sv : Value) (form : Bool) (err : Int) (c : Bool) (hd : d ≤ 1000) (hf : (form || decide (24 < d)) = true) (h : RD W p s k d gv sv form err) :
    Calls Tryz.prog 9 #[.pointer (some ⟨p, 0, none⟩), .bool c] W (offPost W p s k d gv sv err) := by
  have HO := Lib.hid (ropen_any W p s k d gv sv form err hd h)
  clear h
  go_enter Tryz.func9, Tryz.ntmps9
  go_upto_region 2 with (first
    | (go_at_call 12; (with_reducible refine HO.out.mono ?_); rintro e w1 ⟨rfl, hR, hF⟩))
  rw [hf] at hR
  obtain ⟨c0, c1, c2, c3, c4, c5, c6, fz⟩ := hR.cells
  have HR := Lib.hid hR
  have HF := Lib.hid hF
  clear hR hF c0 c1 c2 c3 c4 c6 fz HO hf
  go_wp2
  go_ret
  exact ⟨rfl, HR.out, HF.out⟩
theorem rchoice_off (W : World) (p : Nat) (s : ByteArray) (k d : Nat) (gv sv : Value) (form : Bool) (err : Int) (c : Bool) (hd : d ≤ 1000) (hf : (form || decide (24 < d)) = true) (h : RD W p s k d gv sv form err) :
    Calls Tryz.prog 19 #[.pointer (some ⟨p, 0, none⟩), .bool c] W (offPost W p s k d gv sv err) := by
  have HO := Lib.hid (ropen_any W p s k d gv sv form err hd h)
  clear h
  go_enter Tryz.func19, Tryz.ntmps19
  go_upto_region 2 with (first
    | (go_at_call 12; (with_reducible refine HO.out.mono ?_); rintro e w1 ⟨rfl, hR, hF⟩))
  rw [hf] at hR
  obtain ⟨c0, c1, c2, c3, c4, c5, c6, fz⟩ := hR.cells
  have HR := Lib.hid hR
  have HF := Lib.hid hF
  clear hR hF c0 c1 c2 c3 c4 c6 fz HO hf
  go_wp2
  go_ret
  exact ⟨rfl, HR.out, HF.out⟩
theorem rone_off (W : World) (p : Nat) (s : ByteArray) (k d : Nat) (gv sv : Value) (form : Bool) (err : Int) (c : Bool) (hd : d ≤ 1000) (hf : (form || decide (24 < d)) = true) (h : RD W p s k d gv sv form err) :
    Calls Tryz.prog 39 #[.pointer (some ⟨p, 0, none⟩), .bool c] W (offPost W p s k d gv sv err) := by
  have HO := Lib.hid (ropen_any W p s k d gv sv form err hd h)
  clear h
  go_enter Tryz.func39, Tryz.ntmps39
  go_upto_region 2 with (first
    | (go_at_call 12; (with_reducible refine HO.out.mono ?_); rintro e w1 ⟨rfl, hR, hF⟩))
  rw [hf] at hR
  obtain ⟨c0, c1, c2, c3, c4, c5, c6, fz⟩ := hR.cells
  have HR := Lib.hid hR
  have HF := Lib.hid hF
  clear hR hF c0 c1 c2 c3 c4 c6 fz HO hf
  go_wp2
  go_ret
  exact ⟨rfl, HR.out, HF.out⟩
/-- too deep: there the text ends as a wrong form. -/
theorem off_post {W : World} {B p : Nat} {s : ByteArray} {k d : Nat} {gv : Value} {g : List (Bs × Bs)} {sv : Value} {o : Own} {err : Int} {c : Bool} {K : Kd} {e : Ending} {w' : World} (hK : K = .asg ∨ K = .cho ∨ K = .un) (hd : d = 25) (h : IV W B p s k d gv g sv o false err) (h2 : offPost W p s k d gv sv err e w') : rdPost W B p s k d gv g o err c K e w' := by
  obtain ⟨rfl, hR, hF⟩ := h2
  obtain ⟨h1, _, _, _, _, _, h7, _⟩ := id h
  exact ⟨0, k, d + 1, sv, o, true, err, none, rfl, ⟨by decide, by decide⟩, h.step hF hR h7 (Nat.le_refl _), hF.up, Nat.le_refl _, Nat.le_refl _, PR.deep _ hK (by omega), rfl, by omega, by omega⟩
end Go.Proofs.YtbmnngliapmgfaaGreatDoor
