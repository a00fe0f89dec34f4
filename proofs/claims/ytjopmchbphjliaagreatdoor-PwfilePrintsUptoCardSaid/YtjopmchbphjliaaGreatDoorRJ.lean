/- Contract of the document's Print. -/
import Derived.Test.YtjopmchbphjliaaGreatDoorRI
import Derived.Test.YtjopmchbphjliaaGreatDoorP1
namespace Go.Proofs.YtjopmchbphjliaaGreatDoor
open Go.RowKit Go.Shelf

def rprRel (w : World) (us : List Usr) (sv iv : Value) (wr : World) : Prop :=
  ∃ (k : Nat) (t : ByteArray), k ≤ us.length ∧ iv = .int .i64 k ∧ sv = .string t ∧ t.data.toList = linesOf (us.take k) ∧ Below w.heap.size w wr
theorem lines_next {us : List Usr} {k : Nat} {u : Usr} (hu : us[k]? = some u) {t : ByteArray} (ht : t.data.toList = linesOf (us.take k)) : (t ++ coreB u ++ ⟨#[10]⟩).data.toList = linesOf (us.take (k + 1)) := by
  rw [cat_data, cat_data, ht, (take_next us k u hu).1, List.append_assoc]
  unfold linesOf
  rw [List.map_append, List.flatten_append]
  simp only [List.map_cons, List.map_nil, List.flatten_cons, List.flatten_nil, List.append_nil]
  rfl
set_option maxRecDepth 100000 in
set_option maxHeartbeats 3200000 in
theorem rprint_any (p : Option Addr) (n cap : Nat) (us : List Usr) (w : World) (hin : InUsers w p n us) (hn : n ≤ maxLen) (hsm : ∀ u ∈ us, u.home.size ≤ 1048576 ∧ u.shell.size ≤ 1048576) :
    Calls Tryz.prog 13 #[.slice p n cap] w fun e w' => e = .returned (.string ⟨(printS us).toArray⟩) ∧ Below w.heap.size w w' := by
  have hright := rright_any p n cap us w hin hn hsm
  cases hr : rightL us
  · have Hr := Lib.hid (show Value.string ⟨(printS us).toArray⟩ = .string ⟨#[]⟩ by unfold printS; rw [hr]; rfl)
    rw [hr] at hright
    clear hin hr
    go_enter Tryz.func13, Tryz.ntmps13
    go_wp2_with (go_at_call 11; refine hright.mono ?_; rintro e w1 ⟨rfl, hb⟩)
    go_ret
    exact ⟨ret_val Hr.out.symm, hb⟩
  · have Hr := Lib.hid (show printS us = linesOf us by unfold printS; rw [hr]; rfl)
    obtain ⟨h8, hall⟩ := rightL_parts hr
    rw [hr] at hright
    have hlen := hin.1
    subst hlen
    have Hin := Lib.hid hin
    have Hall := Lib.hid hall
    have Hright := Lib.hid hright
    clear hin hr hall hsm hn hright
    go_enter Tryz.func13, Tryz.ntmps13
    go_wp2_with fail
    refine Hright.out.mono ?_
    rintro e w1 ⟨rfl, hb1⟩
    go_wp2
    go_loopw [4, 5] (fun sv iv wr => rprRel w us sv iv wr) (fun _ iv _ => us.length - (intOf iv).toNat)
    case atStart => exact ⟨0, ⟨#[]⟩, Nat.zero_le _, rfl, rfl, rfl, hb1⟩
    case round =>
      obtain ⟨k, t, hk, rfl, rfl, ht, hB⟩ := hrel
      clear hb1
      by_cases hlt : k < us.length
      · have hu : us[k]? = some us[k] := List.getElem?_eq_getElem hlt
        obtain ⟨hok, b, off, hpp, hc⟩ := Hin.out.2 k _ hu
        have hcw := hc.below hB hc.lt
        have hru := Hall.out us[k] (List.getElem_mem hlt)
        have hacc := linesOf_len (us.take k) (fun x hx => Hall.out x (List.mem_of_mem_take hx))
        rw [← ht, size_len, List.length_take] at hacc
        have hnx := lines_next hu ht
        generalize us[k] = u at hu hcw hru hnx
        subst hpp
        have hll := line_len hru
        have hcs : (coreB u).size ≤ 301 := by
          rw [← size_len]
          show (coreS u).length ≤ 301
          have : (coreS u ++ [10]).length ≤ 301 := hll
          simp at this; omega
        have hcall := rline_any u hru
        obtain ⟨x, hx⟩ : ∃ x, coreB u = x := ⟨_, rfl⟩
        rw [hx] at hcall hcs hnx
        have hts : t.size ≤ 3000 := by omega
        have hs1 : (t ++ x).size ≤ 4000 := by rw [cat_size]; omega
        unfold Usr.val at hcall
        obtain ⟨c0, c1, c2, c3, c4, c5⟩ := hcw
        have Hcall := Lib.hid hcall
        have Hnx := Lib.hid hnx
        clear hu hc hok hru hll hcall hacc hnx ht hx
        go_wp2_with fail
        refine (Hcall.out _).mono ?_
        rintro e w2 ⟨rfl, hbz⟩
        have hB2 := next hB hB.size hbz
        clear c0 c1 c2 c3 c4 c5 hbz
        go_wp2
        go_roundw
        case rel => exact ⟨k + 1, _, by omega, by go_num, rfl, Hnx.out, hB2⟩
        case measure => simp [intOf]; omega
      · obtain rfl : k = us.length := by omega
        have Hv := Lib.hid (show Value.string t = .string ⟨(printS us).toArray⟩ by
          rw [Hr.out]; refine congrArg Value.string (Mx.list_eq _ _ ?_); rw [ht, List.take_length])
        clear ht
        go_wp2
        go_ret
        exact ⟨ret_val Hv.out, hB⟩
end Go.Proofs.YtjopmchbphjliaaGreatDoor
