/- The walk of TtyEnds. -/
import Derived.Test.YtojbgokbobkbdaaEL
namespace Go.Proofs.Ytojbgokbobkbdaa
open Go.RowKit
set_option linter.unusedVariables false
set_option linter.unusedSimpArgs false
variable {w0 W W' : World} {B T : Nat} {S : Nat → Prop} {s : TS}
def endsRel (w : World) (T : Nat) (iv : Value) (wr : World) : Prop := ∃ (k : Nat) (sh : Bs), iv = .int .i64 k ∧ k ≤ 40 ∧ sh.length ≤ 1000 * k ∧ TL w wr T ⟨[], [], true, sh⟩
set_option maxHeartbeats 4000000 in
set_option maxRecDepth 100000 in
theorem ends_any (p0 : Option Addr) (n0 c0 : Nat) (z0 : List ByteArray) (p1 : Option Addr) (n1 c1 : Nat) (z1 : List Bool) (w : World) (h0 : InStrs w p0 n0 z0) (l0 : n0 ≤ maxLen) (h1 : InBools w p1 n1 z1) (l1 : n1 ≤ maxLen) :
    Calls Try.prog 8 #[.slice p0 n0 c0, .slice p1 n1 c1] w fun e w' => e = .returned (.bool true) ∧ Below w.heap.size w w' := by
  have H0 := Lib.hid h0
  have H1 := Lib.hid h1
  unfold maxLen at l0 l1
  clear h0 h1
  go_enter Try.func8, Try.ntmps8
  go_wp2_with fail
  refine (shown_any w).mono ?_
  rintro e w1 ⟨rfl, b1⟩
  go_wp2_with fail
  refine (tl_new b1).mono ?_
  rintro e w2 ⟨T, rfl, p2⟩
  have H2 := Lib.hid p2
  clear p2 b1
  go_wp2
  go_loopw [7] (fun iv wr => endsRel w T iv wr) (fun iv _ => 40 - (Lib.intOf iv).toNat)
  case atStart => exact ⟨0, [], rfl, by decide, by decide, H2.out⟩
  case round =>
    obtain ⟨k, sh, rfl, hk, hsh, hT⟩ := hrel
    clear H2
    by_cases hlt : k < n0 ∧ k < n1 ∧ k < 40
    · obtain ⟨k0, k1, k2⟩ := hlt
      have hz0 : z0[k]? = some (z0[k]'(by rw [H0.out.1]; exact k0)) := List.getElem?_eq_getElem _
      have hz1 : z1[k]? = some (z1[k]'(by rw [H1.out.1]; exact k1)) := List.getElem?_eq_getElem _
      obtain ⟨g0, o0, rfl, hc, hs⟩ := H0.out.2 k _ hz0
      obtain ⟨g1, o1, rfl, hc1, -⟩ := H1.out.2 k _ hz1
      generalize z0[k]'(by rw [H0.out.1]; exact k0) = z at hz0 hc hs
      generalize z1[k]'(by rw [H1.out.1]; exact k1) = f at hz1 hc1
      have e0 := hT.cell hc
      have e1 := hT.cell hc1
      have i1 : (0 : Int) ≤ (k : Int) := by omega
      have i2 : (k : Int) < n0 := by omega
      have i3 : (k : Int) < n1 := by omega
      have i4 : (k : Int) < 40 := by omega
      have H3 := Lib.hid hT
      clear hz0 hz1 hc hT
      go_wp2_with fail
      refine (shows_any z hs _).mono ?_
      rintro e w3 ⟨⟨a, rfl, la, pa⟩, rfl⟩
      have hla : a.data.toList.length ≤ 200 := la
      cases f
      · have hd : (a ++ ⟨#[4]⟩ : ByteArray).data.toList = a.data.toList ++ [4] := data_app _ _
        have hK := type_end a.data.toList pa sh (by omega) 4 (by decide)
        have HT := Lib.hid (tl_type (a ++ ⟨#[4]⟩) (by rw [size_list, hd, List.length_append, ← size_list]; simp; omega) H3.out (by simp only; omega))
        rw [hd, hK] at HT
        clear hd hK pa H3 e0
        go_wp2_with fail
        refine HT.out.mono ?_
        rintro e w4 ⟨rfl, h4⟩
        have hR := read_whole a.data.toList 999 (by omega) (by decide) (sh ++ a.data.toList)
        have HR := Lib.hid (tl_read 999 h4)
        unfold readV at HR
        rw [hR.1, hR.2.1, hR.2.2] at HR
        rw [show (⟨a.data.toList.toArray⟩ : ByteArray) = a from (ba_eq a).symm] at HR
        clear hR h4 HT
        go_wp2_with fail
        refine HR.out.mono ?_
        rintro e w5 ⟨rfl, h5⟩
        have hR2 := read_none 999 [] (sh ++ a.data.toList) true
        have HR2 := Lib.hid (tl_read 999 h5)
        unfold readV at HR2
        rw [hR2.1, hR2.2.1, hR2.2.2] at HR2
        clear hR2 h5 HR
        go_wp2_with fail
        refine HR2.out.mono ?_
        rintro e w6 ⟨rfl, h6⟩
        have H6 := Lib.hid h6
        clear HR2 h6
        go_wp2
        go_roundw
        case rel => exact ⟨k + 1, _, by go_num, by omega, by rw [List.length_append]; omega, H6.out⟩
        case measure => simp [Lib.intOf]; omega
      · have hd : (a ++ ⟨#[10]⟩ : ByteArray).data.toList = a.data.toList ++ [10] := data_app _ _
        have hK := type_enter a.data.toList pa sh (by omega) 10 (by decide)
        have HT := Lib.hid (tl_type (a ++ ⟨#[10]⟩) (by rw [size_list, hd, List.length_append, ← size_list]; simp; omega) H3.out (by simp only; omega))
        rw [hd, hK] at HT
        clear hd hK pa H3 e0
        go_wp2_with fail
        refine HT.out.mono ?_
        rintro e w4 ⟨rfl, h4⟩
        have hR := read_whole (a.data.toList ++ [10]) 999 (by rw [List.length_append]; simp; omega) (by decide) (sh ++ a.data.toList ++ [10])
        have HR := Lib.hid (tl_read 999 h4)
        unfold readV at HR
        rw [hR.1, hR.2.1, hR.2.2] at HR
        have q1 : (⟨(a.data.toList ++ [10]).toArray⟩ : ByteArray) = a ++ ⟨#[10]⟩ := by apply ByteArray.ext; apply Array.toList_inj.1; simp
        rw [q1] at HR
        clear q1
        clear hR h4 HT
        go_wp2_with fail
        refine HR.out.mono ?_
        rintro e w5 ⟨rfl, h5⟩
        have hR2 := read_none 999 [] (sh ++ a.data.toList ++ [10]) true
        have HR2 := Lib.hid (tl_read 999 h5)
        unfold readV at HR2
        rw [hR2.1, hR2.2.1, hR2.2.2] at HR2
        clear hR2 h5 HR
        go_wp2_with fail
        refine HR2.out.mono ?_
        rintro e w6 ⟨rfl, h6⟩
        have H6 := Lib.hid h6
        clear HR2 h6
        go_wp2
        go_roundw
        case rel => exact ⟨k + 1, _, by go_num, by omega, by rw [List.length_append, List.length_append]; simp; omega, H6.out⟩
        case measure => simp [Lib.intOf]; omega
    · have hbel := hT.bel
      clear hT
      by_cases hn : k < n0
      · have i4 : (k : Int) < n0 := by omega
        by_cases hn1 : k < n1
        · have i3 : ¬ (k : Int) < 40 := by omega
          have i5 : (k : Int) < n1 := by omega
          clear hlt
          go_wp2
          go_ret
          exact ⟨rfl, hbel⟩
        · have i5 : ¬ (k : Int) < n1 := by omega
          clear hlt
          go_wp2
          go_ret
          exact ⟨rfl, hbel⟩
      · have i4 : ¬ (k : Int) < n0 := by omega
        clear hlt
        go_wp2
        go_ret
        exact ⟨rfl, hbel⟩
end Go.Proofs.Ytojbgokbobkbdaa
