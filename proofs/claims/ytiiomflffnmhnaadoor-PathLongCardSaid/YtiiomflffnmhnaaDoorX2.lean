/- The walk of the law PathBases. -/
import Derived.Test.YtiiomflffnmhnaaDoorX1
namespace Go.Proofs.YtiiomflffnmhnaaDoor
open Go.RowKit Go.Shelf

def upRel1 (n : Nat) (i : Value) : Prop := ∃ k : Nat, k ≤ n ∧ i = .int .i64 k
def upRel2 (n m : Nat) (i : Value) : Prop := ∃ k : Nat, n ≤ k ∧ k ≤ m ∧ i = .int .i64 k
theorem get_mem (b : ByteArray) (k : Nat) (h : k < b.size) : b[k] ∈ b.data.toList := by
  have e : b[k] = b.data.toList[k]'(by simpa using h) := by simp; rfl
  rw [e]; exact List.getElem_mem _
theorem rest_stroke {l x : List UInt8} {k : Nat} (h : l = x ++ List.replicate k 47) (j : Nat) (h1 : x.length ≤ j) (h2 : j < l.length) : l[j] = 47 := by
  subst h
  rw [List.getElem_append_right h1, List.getElem_replicate]
theorem front_str (s a b : ByteArray) (k : Nat) (h : s.data.toList = a.data.toList ++ b.data.toList ++ List.replicate k 47) : s.extract 0 (a.size + b.size) = a ++ b := by
  rw [extract_take, app_str, h]
  rw [← size_len a, ← size_len b, ← List.length_append, List.take_left]
set_option maxHeartbeats 2000000 in
theorem bases_walk (s : ByteArray) (hs : s.size ≤ 140737488351232) (w : World) :
    Calls Tryd.prog 6 #[.string s] w fun e w' => e = .returned (.bool true) ∧ Below w.heap.size w w' := by
  have hs' : s.size < 4611686018427387904 := by omega
  obtain ⟨f1, ⟨q, f2⟩, f3, f4⟩ := base_facts s.data.toList
  obtain ⟨a, ha⟩ : ∃ a : ByteArray, (⟨(baseS s.data.toList).1.toArray⟩ : ByteArray) = a := ⟨_, rfl⟩
  obtain ⟨b, hb⟩ : ∃ b : ByteArray, (⟨(baseS s.data.toList).2.toArray⟩ : ByteArray) = b := ⟨_, rfl⟩
  have hV : baseV s.data.toList = .tuple #[.string a, .string b] := by unfold baseV; rw [ha, hb]
  have hal : (baseS s.data.toList).1 = a.data.toList := by rw [← ha]
  have hbl : (baseS s.data.toList).2 = b.data.toList := by rw [← hb]
  rw [hbl] at f1 f2 f3 f4
  rw [hal] at f2 f3 f4
  have hlen : a.size + b.size ≤ s.size := by
    have := congrArg List.length f2
    rw [List.length_append, List.length_append, size_len, size_len, size_len] at this; omega
  have HV := Lib.hid hV
  have F1 : ∀ k (h : k < b.size), (((b[k].toNat : Int) == 47) : Bool) = false := fun k h => u8_false _ 47 (f1 _ (get_mem b k h))
  have F2 : ∀ k (h : k < s.size), a.size + b.size ≤ k → (((s[k].toNat : Int) != 47) : Bool) = false := fun k h hk => by
    refine u8_nn _ 47 ?_
    have := rest_stroke f2 k (by rw [List.length_append, size_len, size_len]; exact hk) (by rw [size_len]; exact h)
    rw [← this]; simp; rfl
  have F3 := front_str s a b q f2
  have HF1 := Lib.hid F1
  have HF2 := Lib.hid F2
  have HF3 := Lib.hid F3
  clear ha hb hV hal hbl f1 f2 F1 F2 F3
  have heq : ((a ++ b).toList == (s.extract 0 (a.size + b.size)).toList) = true := by rw [HF3.out]; simp
  by_cases hb0 : b.data.toList = []
  · have he := isEmpty_of hb0
    have hz : (((a.size : Int) + (b.size : Int) == (s.size : Int)) : Bool) = true := by
      have h1 := f3 hb0
      have h2 : a.size = s.size := by rw [← size_len a, ← size_len s, h1]
      have h3 : b.size = 0 := by rw [← size_len b, hb0]; rfl
      rw [beq_iff_eq]; omega
    clear f3 f4 hb0
    go_enter Tryd.func6, Tryd.ntmps6
    go_wp2_with (first | (go_at_call 10; refine (shown_any _).mono ?_; rintro e w' ⟨rfl, hb0⟩) | (go_at_call 14; refine (base_any s hs' _).mono ?_; rintro e w' ⟨rfl, n1, rfl⟩; rw [HV.out]))
    go_loop [6] (fun i => upRel1 b.size i) (fun i => b.size - (intOf i).toNat)
    case atStart => exact ⟨0, Nat.zero_le _, rfl⟩
    case round =>
      obtain ⟨k, hk, rfl⟩ := hrel
      by_cases hlt : k < b.size
      · have hx := HF1.out k hlt
        go_wp2
        go_round
        case rel => exact ⟨k + 1, by omega, by go_num⟩
        case measure => simp [intOf]; omega
      · go_wp2
        go_loop [8] (fun i => upRel2 (a.size + b.size) s.size i) (fun i => s.size - (intOf i).toNat)
        case atStart => exact ⟨a.size + b.size, Nat.le_refl _, hlen, by go_num⟩
        case round =>
          obtain ⟨j, hj1, hj2, rfl⟩ := hrel
          by_cases hlt2 : j < s.size
          · have hx := HF2.out j hlt2 hj1
            go_wp2
            go_round
            case rel => exact ⟨j + 1, by omega, by omega, by go_num⟩
            case measure => simp [intOf]; omega
          · go_wp2
            go_ret
            exact ⟨rfl, below_drewN hb0 n1⟩
  · have he := isEmpty_no hb0
    by_cases ha0 : a.data.toList = []
    · have hea := isEmpty_of ha0
      clear f3 f4 hb0 ha0
      go_enter Tryd.func6, Tryd.ntmps6
      go_wp2_with (first | (go_at_call 10; refine (shown_any _).mono ?_; rintro e w' ⟨rfl, hb0⟩) | (go_at_call 14; refine (base_any s hs' _).mono ?_; rintro e w' ⟨rfl, n1, rfl⟩; rw [HV.out]))
      go_loop [6] (fun i => upRel1 b.size i) (fun i => b.size - (intOf i).toNat)
      case atStart => exact ⟨0, Nat.zero_le _, rfl⟩
      case round =>
        obtain ⟨k, hk, rfl⟩ := hrel
        by_cases hlt : k < b.size
        · have hx := HF1.out k hlt
          go_wp2
          go_round
          case rel => exact ⟨k + 1, by omega, by go_num⟩
          case measure => simp [intOf]; omega
        · go_wp2
          go_loop [8] (fun i => upRel2 (a.size + b.size) s.size i) (fun i => s.size - (intOf i).toNat)
          case atStart => exact ⟨a.size + b.size, Nat.le_refl _, hlen, by go_num⟩
          case round =>
            obtain ⟨j, hj1, hj2, rfl⟩ := hrel
            by_cases hlt2 : j < s.size
            · have hx := HF2.out j hlt2 hj1
              go_wp2
              go_round
              case rel => exact ⟨j + 1, by omega, by omega, by go_num⟩
              case measure => simp [intOf]; omega
            · go_wp2
              go_ret
              exact ⟨rfl, below_drewN hb0 n1⟩
    · have hea := isEmpty_no ha0
      have hpa : 0 < a.size := by
        rcases Nat.eq_zero_or_pos a.size with h | h
        · exact absurd (List.length_eq_zero_iff.1 (by rw [size_len]; exact h)) ha0
        · exact h
      have hla : (((a[a.size - 1].toNat : Int) == 47) : Bool) = true := by
        refine u8_true _ 47 ?_
        have := (f4.resolve_left hb0).resolve_left ha0
        rw [last_at a hpa] at this
        exact Option.some.inj this
      clear f3 f4 hb0 ha0
      go_enter Tryd.func6, Tryd.ntmps6
      go_wp2_with (first | (go_at_call 10; refine (shown_any _).mono ?_; rintro e w' ⟨rfl, hb0⟩) | (go_at_call 14; refine (base_any s hs' _).mono ?_; rintro e w' ⟨rfl, n1, rfl⟩; rw [HV.out]))
      go_loop [6] (fun i => upRel1 b.size i) (fun i => b.size - (intOf i).toNat)
      case atStart => exact ⟨0, Nat.zero_le _, rfl⟩
      case round =>
        obtain ⟨k, hk, rfl⟩ := hrel
        by_cases hlt : k < b.size
        · have hx := HF1.out k hlt
          go_wp2
          go_round
          case rel => exact ⟨k + 1, by omega, by go_num⟩
          case measure => simp [intOf]; omega
        · go_wp2
          go_loop [8] (fun i => upRel2 (a.size + b.size) s.size i) (fun i => s.size - (intOf i).toNat)
          case atStart => exact ⟨a.size + b.size, Nat.le_refl _, hlen, by go_num⟩
          case round =>
            obtain ⟨j, hj1, hj2, rfl⟩ := hrel
            by_cases hlt2 : j < s.size
            · have hx := HF2.out j hlt2 hj1
              go_wp2
              go_round
              case rel => exact ⟨j + 1, by omega, by omega, by go_num⟩
              case measure => simp [intOf]; omega
            · go_wp2
              go_ret
              exact ⟨rfl, below_drewN hb0 n1⟩
end Go.Proofs.YtiiomflffnmhnaaDoor
