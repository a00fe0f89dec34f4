/- shows; the walk of TtyKills. -/
import Derived.Test.YtojbgokbobkbdaaEK
namespace Go.Proofs.Ytojbgokbobkbdaa
open Go.RowKit
set_option linter.unusedVariables false
set_option linter.unusedSimpArgs false
variable {w0 W W' : World} {B T : Nat} {S : Nat → Prop} {s : TS}
theorem ext_one (s : ByteArray) (k : Nat) (h : k < s.size) : (s.extract k (k + 1)).data.toList = [s.data.toList[k]'(by exact h)] := by
  simp only [ByteArray.data_extract, Array.toList_extract]
  apply List.ext_getElem?
  intro i
  have hl : s.data.toList.length = s.size := rfl
  by_cases hi : i = 0
  · subst hi
    simp [List.getElem?_take, List.getElem?_drop, List.extract_eq_take_drop, List.getElem?_eq_getElem (show k < s.data.toList.length by rw [hl]; exact h)]
  · rw [List.getElem?_eq_none, List.getElem?_eq_none]
    · simp; omega
    · simp [List.extract_eq_take_drop]; omega
theorem data_app (a b : ByteArray) : (a ++ b).data.toList = a.data.toList ++ b.data.toList := by simp
theorem size_list (a : ByteArray) : a.size = a.data.toList.length := rfl
theorem u8_cases (c : UInt8) : (prints c ∧ (32 : Int) ≤ c.toNat ∧ (c.toNat : Int) ≤ 126) ∨ (prints c ∧ ¬ (32 : Int) ≤ c.toNat ∧ ((c.toNat : Int) == 9) = true) ∨
    (¬ prints c ∧ ¬ (32 : Int) ≤ c.toNat ∧ ((c.toNat : Int) == 9) = false) ∨ (¬ prints c ∧ (32 : Int) ≤ c.toNat ∧ ¬ (c.toNat : Int) ≤ 126 ∧ ((c.toNat : Int) == 9) = false) := by
  unfold prints
  by_cases h1 : 32 ≤ c.toNat
  · by_cases h2 : c.toNat ≤ 126
    · exact .inl ⟨.inr ⟨h1, h2⟩, by omega, by omega⟩
    · exact .inr (.inr (.inr ⟨by omega, by omega, by omega, by simp; omega⟩))
  · by_cases h2 : c.toNat = 9
    · exact .inr (.inl ⟨.inl h2, by omega, by rw [h2]; rfl⟩)
    · exact .inr (.inr (.inl ⟨by omega, by omega, by simp; omega⟩))
def Pr (t : ByteArray) : Prop := ∀ b ∈ t.data.toList, prints b
def showsRel (n : Nat) (w : World) (iv tv : Value) (wr : World) : Prop := ∃ (k : Nat) (t : ByteArray), iv = .int .i64 k ∧ k ≤ n ∧ tv = .string t ∧ t.size ≤ 200 ∧ Pr t ∧ w = wr
set_option maxHeartbeats 2000000 in
set_option maxRecDepth 100000 in
theorem shows_any (z : ByteArray) (hz : z.size ≤ maxLen) (w : World) :
    Calls Try.prog 20 #[.string z] w fun r w' => (∃ t : ByteArray, r = .returned (.string t) ∧ t.size ≤ 200 ∧ Pr t) ∧ w = w' := by
  unfold maxLen at hz
  go_enter Try.func20, Try.ntmps20
  go_wp2
  go_loopw [4, 3] (fun iv tv wr => showsRel z.size w iv tv wr) (fun iv _ _ => z.size - (Lib.intOf iv).toNat)
  case atStart => exact ⟨0, ⟨#[]⟩, rfl, Nat.zero_le _, rfl, by decide, by intro b hb; simp at hb, rfl⟩
  case round =>
    obtain ⟨k, t, rfl, hk, rfl, ht, hp, rfl⟩ := hrel
    have HP := Lib.hid hp
    clear hp
    by_cases hlt : k < z.size ∧ t.size < 200
    · obtain ⟨h1, h2⟩ := hlt
      have i0 : (0 : Int) ≤ k := by omega
      have i1 : (k : Int) < z.size := by omega
      have i2 : (t.size : Int) < 200 := by omega
      have i3 : (k : Int) + 1 ≤ z.size := by omega
      have hx := ext_one z k h1
      have hc := u8_cases (z.data.toList[k]'(by exact h1))
      have HX := Lib.hid hx
      change _ ∨ _ ∨ _ ∨ _ at hc
      have hce : z[k]'h1 = z.data.toList[k]'(by exact h1) := rfl
      rw [← hce] at hc
      clear hx hk hce
      rcases hc with ⟨hp, c1, c2⟩ | ⟨hp, c1, c2⟩ | ⟨hp, c1, c2⟩ | ⟨hp, c1, c2, c3⟩
      · have HPC := Lib.hid hp
        clear hp
        go_wp2
        go_roundw
        case rel =>
          refine ⟨k + 1, _, by go_num, by omega, rfl, ?_, ?_, rfl⟩
          · rw [size_list, data_app, HX.out, List.length_append, ← size_list]; simp; omega
          · intro b hb
            rw [data_app, HX.out] at hb
            rcases List.mem_append.1 hb with hb | hb
            · exact HP.out b hb
            · simp at hb; rw [hb]; exact HPC.out
        case measure => simp [Lib.intOf]; omega
      · have HPC := Lib.hid hp
        clear hp
        go_wp2
        go_roundw
        case rel =>
          refine ⟨k + 1, _, by go_num, by omega, rfl, ?_, ?_, rfl⟩
          · rw [size_list, data_app, HX.out, List.length_append, ← size_list]; simp; omega
          · intro b hb
            rw [data_app, HX.out] at hb
            rcases List.mem_append.1 hb with hb | hb
            · exact HP.out b hb
            · simp at hb; rw [hb]; exact HPC.out
        case measure => simp [Lib.intOf]; omega
      · clear hp
        go_wp2
        go_roundw
        case rel => exact ⟨k + 1, t, by go_num, by omega, rfl, ht, HP.out, rfl⟩
        case measure => simp [Lib.intOf]; omega
      · clear hp
        go_wp2
        go_roundw
        case rel => exact ⟨k + 1, t, by go_num, by omega, rfl, ht, HP.out, rfl⟩
        case measure => simp [Lib.intOf]; omega
    · by_cases h1 : k < z.size
      · have i1 : (k : Int) < z.size := by omega
        have i2 : ¬ (t.size : Int) < 200 := by omega
        clear hlt
        go_wp2
        go_ret
        exact ⟨⟨t, rfl, ht, HP.out⟩, rfl⟩
      · have i1 : ¬ (k : Int) < z.size := by omega
        clear hlt
        go_wp2
        go_ret
        exact ⟨⟨t, rfl, ht, HP.out⟩, rfl⟩
theorem kills_plain (a b : Bs) (ha : ∀ x ∈ a, prints x) (hb : ∀ x ∈ b, prints x) (la : a.length ≤ 200) (lb : b.length ≤ 200) : typeP (((a ++ [21]) ++ b) ++ [10]) new0 = ⟨[b ++ [10]], [], true, ((a ++ backs a.length) ++ b) ++ [10]⟩ := by
  rw [List.append_assoc, typeP_app]
  unfold new0
  rw [type_kill a ha [] (by omega) 21 (by decide), type_enter b hb _ (by omega) 10 (by decide)]
  simp
def killRel (w : World) (T : Nat) (st : TS) (n : Nat) (iv bv : Value) (wr : World) : Prop := ∃ (k : Nat) (t : ByteArray), iv = .int .i64 k ∧ k ≤ n ∧ bv = .string t ∧ t.data.toList = backs k ∧ TL w wr T st
set_option maxHeartbeats 4000000 in
set_option maxRecDepth 100000 in
theorem kills_any (z0 z1 : ByteArray) (w : World) (h0 : z0.size ≤ maxLen) (h1 : z1.size ≤ maxLen) :
    Calls Try.prog 7 #[.string z0, .string z1] w fun e w' => e = .returned (.bool true) ∧ Below w.heap.size w w' := by
  go_enter Try.func7, Try.ntmps7
  go_wp2_with fail
  refine (shown_any w).mono ?_
  rintro e w1 ⟨rfl, b1⟩
  go_wp2_with fail
  refine (tl_new b1).mono ?_
  rintro e w2 ⟨T, rfl, p2⟩
  have H2 := Lib.hid p2
  clear p2 b1
  go_wp2_with fail
  refine (shows_any z0 h0 w2).mono ?_
  rintro e w3 ⟨⟨a, rfl, la, pa⟩, rfl⟩
  go_wp2_with fail
  refine (shows_any z1 h1 w2).mono ?_
  rintro e w3 ⟨⟨b, rfl, lb, pb⟩, rfl⟩
  have hd : (((a ++ ⟨#[21]⟩) ++ b) ++ ⟨#[10]⟩ : ByteArray).data.toList = ((a.data.toList ++ [21]) ++ b.data.toList) ++ [10] := by rw [data_app, data_app, data_app]
  have hsz : (((a ++ ⟨#[21]⟩) ++ b) ++ ⟨#[10]⟩ : ByteArray).size ≤ 1000 := by
    rw [size_list, hd]
    simp [← size_list]
    omega
  have hK := kills_plain a.data.toList b.data.toList pa pb (by rw [← size_list]; exact la) (by rw [← size_list]; exact lb)
  have HT := Lib.hid (tl_type _ (Nat.le_trans hsz (by decide)) H2.out (by decide))
  rw [hd, hK] at HT
  clear hd hsz hK pa pb H2
  go_wp2_with fail
  refine HT.out.mono ?_
  rintro e w3 ⟨rfl, h3⟩
  have H3 := Lib.hid h3
  clear h3 HT
  go_wp2
  go_loopw [10, 9] (fun iv bv wr => killRel w T ⟨[b.data.toList ++ [10]], [], true, a.data.toList ++ backs a.data.toList.length ++ b.data.toList ++ [10]⟩ a.size iv bv wr) (fun iv _ _ => a.size - (Lib.intOf iv).toNat)
  case atStart => exact ⟨0, ⟨#[]⟩, rfl, Nat.zero_le _, rfl, rfl, H3.out⟩
  case round =>
    obtain ⟨k, t, rfl, hk, rfl, ht, hT⟩ := hrel
    have hts : t.size = 3 * k := by rw [size_list, ht, backs_len]
    have HT := Lib.hid ht
    have H4 := Lib.hid hT
    clear ht hT H3
    by_cases hlt : k < a.size
    · have i1 : (k : Int) < a.size := by omega
      have i2 : t.size + 3 ≤ 1000 := by omega
      clear hts
      go_wp2
      go_roundw
      case rel =>
        refine ⟨k + 1, _, by go_num, by omega, rfl, ?_, H4.out⟩
        rw [data_app, HT.out, backs_app]
        rfl
      case measure => simp [Lib.intOf]; omega
    · have i1 : ¬ (k : Int) < a.size := by omega
      have hka : k = a.size := by omega
      have hR := (read_whole (b.data.toList ++ [10]) 999 (by rw [List.length_append, ← size_list]; simp; omega) (by decide) (a.data.toList ++ backs a.data.toList.length ++ b.data.toList ++ [10]))
      have HRD := Lib.hid (tl_read 999 H4.out)
      unfold readV at HRD
      rw [hR.1, hR.2.1, hR.2.2] at HRD
      clear hlt hR
      go_wp2_with fail
      refine HRD.out.mono ?_
      rintro e w4 ⟨rfl, h4⟩
      have HS := Lib.hid (tl_screen h4)
      clear HRD H4 h4
      have q1 : (⟨(b.data.toList ++ [10]).toArray⟩ : ByteArray) = b ++ ⟨#[10]⟩ := by apply ByteArray.ext; apply Array.toList_inj.1; simp
      have q2 : (⟨(a.data.toList ++ backs a.data.toList.length ++ b.data.toList ++ [10]).toArray⟩ : ByteArray) = ((a ++ t) ++ b) ++ ⟨#[10]⟩ := by
        apply ByteArray.ext; apply Array.toList_inj.1
        rw [data_app, data_app, data_app, HT.out, hka, size_list]
      simp only at HS
      rw [q2] at HS
      rw [q1]
      clear q1 q2 hka i1
      go_wp2_with fail
      refine HS.out.mono ?_
      rintro e w5 ⟨rfl, h5⟩
      have HB := Lib.hid h5.bel
      clear HS h5
      go_wp2
      go_ret
      exact ⟨rfl, HB.out⟩
end Go.Proofs.Ytojbgokbobkbdaa
