/- The walk of ArithSkips. -/
import Derived.Test.YtncjelemjdkklaaDoorBI
import Derived.Test.YtncjelemjdkklaaDoorBE
namespace Go.Proofs.YtncjelemjdkklaaDoor
open Go.RowKit
set_option linter.unusedVariables false
set_option linter.unusedSimpArgs false
theorem cat3 (p : Array UInt8) (t : Bs) : (⟨p⟩ : ByteArray) ++ st t ++ (⟨#[41]⟩ : ByteArray) = st (p.toList ++ (t ++ [41])) := by
  have : ((⟨p⟩ : ByteArray) ++ st t ++ (⟨#[41]⟩ : ByteArray)).data.toList = p.toList ++ (t ++ [41]) := by simp [st]
  rw [← st_of ((⟨p⟩ : ByteArray) ++ st t ++ (⟨#[41]⟩ : ByteArray)), this]
/-- Value at a text between brackets. -/
theorem val_cat (p : Array UInt8) (t : Bs) (W : World) (ht : p.size + t.length + 1 ≤ maxLen) (henv : Env W) (v e : Int) (o : Own) (h : valP [] (p.toList ++ (t ++ [41])) = (v, e, o)) :
    Calls Tryd.prog 10 #[.string ((⟨p⟩ : ByteArray) ++ st t ++ (⟨#[41]⟩ : ByteArray)), .slice none 0 0] W fun r w' => ∃ lo cap, r = .returned (.tuple #[.int .i64 v, .slice lo o.length cap, .int .i64 e]) ∧ Below W.heap.size W w' := by
  rw [cat3]
  exact (val_nil _ W (by simp; omega) henv v e o h).mono (by
    rintro r w' ⟨lo, cap, rfl, -, hb, -⟩
    exact ⟨lo, cap, rfl, hb⟩)
set_option maxRecDepth 100000 in
set_option maxHeartbeats 8000000 in
theorem walk_skips' (t : Bs) (W : World) (henv : Env W) (v0 e0 v1 e1 v2 e2 v3 e3 v4 e4 : Int) (o0 o1 o2 o3 o4 : Own) (h0 : valP [] t = (v0, e0, o0)) (h1 : valP [] (40 :: (t ++ [41])) = (v1, e1, o1))
    (h2 : valP [] ([48, 32, 38, 38, 32, 40] ++ (t ++ [41])) = (v2, e2, o2)) (h3 : valP [] ([55, 32, 124, 124, 32, 40] ++ (t ++ [41])) = (v3, e3, o3)) (h4 : valP [] ([49, 32, 63, 32, 53, 32, 58, 32, 40] ++ (t ++ [41])) = (v4, e4, o4)) (hl : t.length ≤ 140737488351232)
    (hcase : 100 < t.length ∨ (t.length ≤ 100 ∧ (e0 = 17 ∨ (e0 ≠ 17 ∧ (e1 = 17 ∨ (e1 ≠ 17 ∧ (e2 = 17 ∨ (e2 ≠ 17 ∧ (e3 = 17 ∨ (e3 ≠ 17 ∧ (e4 = 17 ∨ ((v2 = 0 ∧ e2 = 0 ∧ o2 = []) ∧ (v3 = 1 ∧ e3 = 0 ∧ o3 = []) ∧ (v4 = 5 ∧ e4 = 0 ∧ o4 = []))))))))))))) :
    Calls Tryd.prog 5 #[.string (st t)] W fun e w' => e = .returned (.bool true) ∧ Below W.heap.size W w' := by
  have HS := Lib.hid (shown_any W henv)
  have HE := Lib.hid henv
  have hst := st_size t
  rcases hcase with hc | ⟨hc, hq⟩
  · clear h0 h1 h2 h3 h4
    go_enter Tryd.func5, Tryd.ntmps5
    go_wp2_with (go_at_call 8; (with_reducible refine HS.out.mono ?_); rintro e w1 ⟨rfl, hb1⟩; have HB1 := Lib.hid hb1; clear hb1)
    go_ret
    exact ⟨rfl, HB1.out⟩
  · have hm : t.length + 20 ≤ maxLen := by unfold maxLen; omega
    have HV0 := Lib.hid (fun (w1 : World) (he : Env w1) => (val_nil t w1 (by omega) he v0 e0 o0 h0).mono (show ∀ r w', _ → ∃ lo cap, r = .returned (.tuple #[.int .i64 v0, .slice lo o0.length cap, .int .i64 e0]) ∧ Below w1.heap.size w1 w' from by
      rintro r w' ⟨lo, cap, rfl, -, hb, -⟩
      exact ⟨lo, cap, rfl, hb⟩))
    have HV1 := Lib.hid (fun (w1 : World) (he : Env w1) => val_cat #[40] t w1 (by simp; omega) he v1 e1 o1 h1)
    have HV2 := Lib.hid (fun (w1 : World) (he : Env w1) => val_cat #[48, 32, 38, 38, 32, 40] t w1 (by simp; omega) he v2 e2 o2 h2)
    have HV3 := Lib.hid (fun (w1 : World) (he : Env w1) => val_cat #[55, 32, 124, 124, 32, 40] t w1 (by simp; omega) he v3 e3 o3 h3)
    have HV4 := Lib.hid (fun (w1 : World) (he : Env w1) => val_cat #[49, 32, 63, 32, 53, 32, 58, 32, 40] t w1 (by simp; omega) he v4 e4 o4 h4)
    have z1 : ((⟨#[40]⟩ : ByteArray) ++ st t).size = 1 + t.length := by rw [ByteArray.size_append, hst]; rfl
    have z2 : ((⟨#[48, 32, 38, 38, 32, 40]⟩ : ByteArray) ++ st t).size = 6 + t.length := by rw [ByteArray.size_append, hst]; rfl
    have z3 : ((⟨#[55, 32, 124, 124, 32, 40]⟩ : ByteArray) ++ st t).size = 6 + t.length := by rw [ByteArray.size_append, hst]; rfl
    have z4 : ((⟨#[49, 32, 63, 32, 53, 32, 58, 32, 40]⟩ : ByteArray) ++ st t).size = 9 + t.length := by rw [ByteArray.size_append, hst]; rfl
    clear h0 h1 h2 h3 h4 hm henv
    rcases hq with rfl | ⟨n0, rfl | ⟨n1, rfl | ⟨n2, rfl | ⟨n3, rfl | ⟨⟨rfl, rfl, rfl⟩, ⟨rfl, rfl, rfl⟩, ⟨rfl, rfl, rfl⟩⟩⟩⟩⟩⟩ <;>
    (go_enter Tryd.func5, Tryd.ntmps5
     go_wp2_with (first
      | (go_at_call 8; (with_reducible refine HS.out.mono ?_); rintro e w1 ⟨rfl, hb1⟩; have HB1 := Lib.hid hb1; have HE1 := Lib.hid (HE.out.bel hb1); clear hb1)
      | (go_at_call 10; (with_reducible refine (HV0.out _ HE1.out).mono ?_); rintro e w2 ⟨lo2, cap2, rfl, hb2⟩; have HB2 := Lib.hid (bel_next HB1.out hb2); have HE2 := Lib.hid (HE1.out.bel hb2); clear hb2)
      | (go_at_call 10; (with_reducible refine (HV1.out _ HE2.out).mono ?_); rintro e w3 ⟨lo3, cap3, rfl, hb3⟩; have HB3 := Lib.hid (bel_next HB2.out hb3); have HE3 := Lib.hid (HE2.out.bel hb3); clear hb3)
      | (go_at_call 10; (with_reducible refine (HV2.out _ HE3.out).mono ?_); rintro e w4 ⟨lo4, cap4, rfl, hb4⟩; have HB4 := Lib.hid (bel_next HB3.out hb4); have HE4 := Lib.hid (HE3.out.bel hb4); clear hb4)
      | (go_at_call 10; (with_reducible refine (HV3.out _ HE4.out).mono ?_); rintro e w5 ⟨lo5, cap5, rfl, hb5⟩; have HB5 := Lib.hid (bel_next HB4.out hb5); have HE5 := Lib.hid (HE4.out.bel hb5); clear hb5)
      | (go_at_call 10; (with_reducible refine (HV4.out _ HE5.out).mono ?_); rintro e w6 ⟨lo6, cap6, rfl, hb6⟩; have HB6 := Lib.hid (bel_next HB5.out hb6); clear hb6)))
    all_goals first
      | (go_ret; exact ⟨rfl, HB6.out⟩)
      | (go_ret; exact ⟨rfl, HB3.out⟩)
theorem walk_skips (s : ByteArray) (hs : s.size ≤ 140737488351232) (W : World) (henv : Env W) : Calls Tryd.prog 5 #[.string s] W fun e w' => e = .returned (.bool true) ∧ Below W.heap.size W w' := by
  obtain ⟨t, rfl⟩ : ∃ t, s = st t := ⟨s.data.toList, (st_of s).symm⟩
  rw [st_size] at hs
  rcases h0 : valP [] t with ⟨v0, e0, o0⟩
  rcases h1 : valP [] (40 :: (t ++ [41])) with ⟨v1, e1, o1⟩
  rcases h2 : valP [] ([48, 32, 38, 38, 32, 40] ++ (t ++ [41])) with ⟨v2, e2, o2⟩
  rcases h3 : valP [] ([55, 32, 124, 124, 32, 40] ++ (t ++ [41])) with ⟨v3, e3, o3⟩
  rcases h4 : valP [] ([49, 32, 63, 32, 53, 32, 58, 32, 40] ++ (t ++ [41])) with ⟨v4, e4, o4⟩
  refine walk_skips' t W henv v0 e0 v1 e1 v2 e2 v3 e3 v4 e4 o0 o1 o2 o3 o4 h0 h1 h2 h3 h4 hs ?_
  by_cases hl : 100 < t.length
  · exact .inl hl
  · refine .inr ⟨by omega, ?_⟩
    by_cases n0 : e0 = 17
    · exact .inl n0
    have hv := skip_vals (s := t) (by rw [h0]; exact n0)
    have h2' : valP [] ([48, 32, 38, 38] ++ 32 :: 40 :: (t ++ [41])) = (v2, e2, o2) := h2
    have h3' : valP [] ([55, 32, 124, 124] ++ 32 :: 40 :: (t ++ [41])) = (v3, e3, o3) := h3
    have h4' : valP [] ([49, 32, 63, 32, 53, 32, 58] ++ 32 :: 40 :: (t ++ [41])) = (v4, e4, o4) := h4
    rw [h2', h3', h4'] at hv
    obtain ⟨k2, k3, k4⟩ := hv
    refine .inr ⟨n0, ?_⟩
    by_cases n1 : e1 = 17
    · exact .inl n1
    refine .inr ⟨n1, ?_⟩
    by_cases n2 : e2 = 17
    · exact .inl n2
    refine .inr ⟨n2, ?_⟩
    by_cases n3 : e3 = 17
    · exact .inl n3
    refine .inr ⟨n3, ?_⟩
    by_cases n4 : e4 = 17
    · exact .inl n4
    refine .inr ?_
    rcases k2 with k2 | k2 <;> cases k2
    · exact absurd rfl n2
    rcases k3 with k3 | k3 <;> cases k3
    · exact absurd rfl n3
    rcases k4 with k4 | k4 <;> cases k4
    · exact absurd rfl n4
    exact ⟨⟨rfl, rfl, rfl⟩, ⟨rfl, rfl, rfl⟩, rfl, rfl, rfl⟩
end Go.Proofs.YtncjelemjdkklaaDoor
