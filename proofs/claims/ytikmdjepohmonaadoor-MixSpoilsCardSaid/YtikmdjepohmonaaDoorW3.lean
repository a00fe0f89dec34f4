/- Contracts of appendHex and Field. -/
import Derived.Test.YtikmdjepohmonaaDoorW2
import Derived.Laws.IdiomStrings
import Derived.WalkSmall
namespace Go.Proofs.YtikmdjepohmonaaDoor
open Go.RowKit

theorem Tryd.info5 : (Tryd.prog.info? 5).map (fun i => (i.zero, i.size, i.bytes)) = some (some (.int .u8 0), 1, 1) := by kernel_rfl
def cellB (b : UInt8) : Value := .int .u8 (b.toNat : Int)
def letB : ByteArray := ⟨#[48, 49, 50, 51, 52, 53, 54, 55, 56, 57, 97, 98, 99, 100, 101, 102]⟩
theorem let_eq : ∀ e : Fin 16, letB[e.val]'e.isLt = hexC e.val := by decide
theorem let_cell (e : Nat) (h : e < 16) : (.int .u8 (((⟨#[48, 49, 50, 51, 52, 53, 54, 55, 56, 57, 97, 98, 99, 100, 101, 102]⟩ : ByteArray)[e]'h).toNat : Int) : Value) = cellB (hexC e) := by
  have := let_eq ⟨e, h⟩
  show (.int .u8 ((letB[e]'h).toNat : Int) : Value) = _
  rw [this]; rfl
theorem and64 (a b : Nat) (ha : a < 18446744073709551616) (hb : b < 18446744073709551616) : bits .and .u64 (a : Int) (b : Int) = ((a &&& b : Nat) : Int) :=
  (bits_nat .u64 64 (by decide) (fun n h0 h1 => by rw [IntKind.wrap_u64]; omega) a b ha hb).1
theorem and15 (a : Nat) (ha : a < 18446744073709551616) : bits .and .u64 (a : Int) 15 = ((a % 16 : Nat) : Int) := by
  have h : a &&& 15 = a % 16 := Nat.and_two_pow_sub_one_eq_mod a 4
  rw [← h]; exact and64 a 15 ha (by decide)
theorem pow4 (j : Nat) : (2 : Nat) ^ (4 * j) = 16 ^ j := by rw [Nat.pow_mul]
theorem nib (n j : Nat) (hn : n < 18446744073709551616) : bits .and .u64 ((n : Int) / 2 ^ (4 * j)) 15 = ((n / 16 ^ j % 16 : Nat) : Int) := by
  have e1 : (n : Int) / 2 ^ (4 * j) = ((n / 16 ^ j : Nat) : Int) := by rw [← pow4, Int.natCast_ediv, Int.natCast_pow]; rfl
  have : n / 16 ^ j ≤ n := Nat.div_le_self _ _
  rw [e1, and15 _ (by omega)]
def hxRel (xs : List UInt8) (n k B : Nat) (w : World) (v i : Value) (wr : World) : Prop :=
  ∃ m : Nat, m ≤ k ∧ i = .int .i64 ((k : Int) - 1 - (m : Int)) ∧ wr.ownsRow B 5 1 v (xs.length + m) ((xs ++ hexS (n / 16 ^ (k - m)) m).map cellB) ∧ Below B w wr
theorem hex_step {xs : List UInt8} {n k B m j e : Nat} {w w0 wr w1 : World} {v v' : Value} {c : Value} (hj : k = m + 1 + j) (he : e = n / 16 ^ j % 16) (hc : c = cellB (hexC e)) (hb : Below B w w0) (hB : B ≤ w0.heap.size)
    (hw : w0.ownsRow B 5 1 v (xs.length + m) ((xs ++ hexS (n / 16 ^ (k - m)) m).map cellB)) (hwr : wr = w0.alloc (.cells #[c] 5))
    (hg : wr.grownBy w1 v.ownBlock) (hown : w1.ownsRow B 5 1 v' (xs.length + m + 1) ((xs ++ hexS (n / 16 ^ (k - m)) m).map cellB ++ [c])) :
    hxRel xs n k B w v' (.int .i64 ((j : Int) - 1)) w1 := by
  subst hwr hc
  refine ⟨m + 1, by omega, congrArg (Value.int .i64) (by omega), ?_, ?_⟩
  · have e1 : k - (m + 1) = j := by omega
    have e2 : k - m = j + 1 := by omega
    rw [e1, hexS, Nat.div_div_eq_div_mul, ← Nat.pow_succ, ← he, ← List.append_assoc, List.map_append]
    rw [e2] at hown
    exact hown
  · exact (hb.alloc hB _).grown hg (by simp; omega) (fun g hg => (hw.lt g hg).1)
set_option maxHeartbeats 1600000 in
theorem appendHex_any (xs : List UInt8) (n k B : Nat) (v : Value) (hn : n < 18446744073709551616) (hk : k ≤ 16) (hx : xs.length ≤ 16) (w : World) (hv : w.ownsRow B 5 1 v xs.length (xs.map cellB)) (hB : B ≤ w.heap.size) :
    Calls Tryd.prog 18 #[v, .int .u64 n, .int .i64 k] w fun e w' => ∃ v', e = .returned v' ∧ w'.ownsRow B 5 1 v' (xs.length + k) ((xs ++ hexS n k).map cellB) ∧ Below B w w' := by
  obtain ⟨i0, hi, hz0, hz1, hz2⟩ := info_parts Tryd.info5
  go_enter Tryd.func18, Tryd.ntmps18
  go_wp2
  go_loopw [0, 7] (fun v i wr => hxRel xs n k B w v i wr) (fun _ i _ => (intOf i + 1).toNat)
  case atStart => exact ⟨0, Nat.zero_le _, congrArg (Value.int .i64) (by omega), by simpa [hexS] using hv, Below.refl _ _⟩
  case round =>
    obtain ⟨m, hm, rfl, hown, hbel⟩ := hrel
    have hsz : B ≤ wr.heap.size := by have := hbel.size; omega
    by_cases hlt : m < k
    · obtain ⟨j, hj⟩ : ∃ j : Nat, k = m + 1 + j := ⟨k - m - 1, by omega⟩
      have ej : ((k : Int) - 1 - (m : Int)) = (j : Int) := by omega
      rw [ej]
      obtain ⟨e, he⟩ : ∃ e, e = n / 16 ^ j % 16 := ⟨_, rfl⟩
      have h16 : e < 16 := by omega
      have hbits : bits .and .u64 ((n : Int) / 2 ^ (4 * j)) 15 = (e : Int) := by rw [he]; exact nib n j hn
      have He := Lib.hid he
      have Hj := Lib.hid hj
      have hj16 : j < 16 := by omega
      have hm16 : m < 16 := by omega
      have Hc := Lib.hid (let_cell e h16)
      clear he hj ej hv
      go_wp2_with (at_builtin; refine wpList_append_own _ rfl _ _ 30 rfl B 5 i0 (.int .u8 0) 1 1 Tryd.underlying30 hi hz0 hz1 hz2 rfl (by decide) _ _ _ rfl (hown.alloc _) ⟨wr.heap.size, 0, none⟩ 1 1 [.int .u8 (((⟨#[48, 49, 50, 51, 52, 53, 54, 55, 56, 57, 97, 98, 99, 100, 101, 102]⟩ : ByteArray)[e]'h16).toNat : Int)] rfl rfl ?c1 ?c2 ?c3 ?c4 ?c5 ?_)
      case c1 =>
        intro j u hj
        match j, hj with
        | 0, hj => simp at hj; subst hj; simp [Addr.add]
      case c2 => intro u hu; simp at hu; subst hu; rfl
      case c3 => unfold maxLen; omega
      case c4 => omega
      case c5 => exact Nat.le_trans hsz (by simp)
      intro v' w1 hown' hgrow _
      rw [← List.append_assoc, ← List.map_append] at hown'
      have R := hex_step Hj.out He.out Hc.out hbel hsz hown rfl hgrow hown'
      clear hown' hgrow hown hbel
      go_wp2
      go_roundw
      case rel => exact R
      case measure => simp [intOf]
    · obtain rfl : m = k := by omega
      have hneg : ((m : Int) - 1 - (m : Int)) = -1 := by omega
      rw [hneg]
      go_wp2
      go_ret
      refine ⟨_, rfl, ?_, hbel⟩
      have := hown
      rw [Nat.sub_self, Nat.pow_zero, Nat.div_one] at this
      exact this
theorem appendHex_at (xs : List UInt8) (n k B q r : Nat) (v : Value) (hn : n < 18446744073709551616) (hk : k ≤ 16) (hx : q ≤ 16) (hq : xs.length = q) (hr : q + k = r) (w : World) (hv : w.ownsRow B 5 1 v q (xs.map cellB)) (hB : B ≤ w.heap.size) :
    Calls Tryd.prog 18 #[v, .int .u64 n, .int .i64 k] w fun e w' => ∃ v', e = .returned v' ∧ w'.ownsRow B 5 1 v' r ((xs ++ hexS n k).map cellB) ∧ Below B w w' := by
  subst hq hr
  exact appendHex_any xs n k B v hn hk hx w hv hB
theorem own_shape {w : World} {base : Nat} {e : TypeId} {size : Nat} {v : Value} {n : Nat} {xs : List Value} (h : w.ownsRow base e size v n xs) (hn : 0 < n) :
    ∃ g cap, v = .slice (some ⟨g, 0, none⟩) n cap ∧ base ≤ g := by
  rcases h.2 with ⟨_, h0⟩ | ⟨g, cap, cur, hv, hg, _⟩
  · omega
  · exact ⟨g, cap, hv, hg⟩
theorem own_cell {w : World} {base g cap n : Nat} {l : List UInt8} (h : w.ownsRow base 5 1 (.slice (some ⟨g, 0, none⟩) n cap) n (l.map cellB)) (j : Nat) (hj : j < l.length) :
    w.cell? ⟨g, j, none⟩ = some (.int .u8 ((l[j]'hj).toNat : Int)) := by
  have hl : l.length = n := by simpa using h.1
  rw [h.cellAt j (by omega), List.getElem?_map, List.getElem?_eq_getElem hj]; rfl
theorem own_string {w : World} {base g cap n : Nat} {l : List UInt8} (h : w.ownsRow base 5 1 (.slice (some ⟨g, 0, none⟩) n cap) n (l.map cellB)) :
    (convert 30 9 (.slice (some ⟨g, 0, none⟩) n cap)).run Tryd.prog w = .ok (.string ⟨l.toArray⟩) w := by
  have hl : l.length = n := by simpa using h.1
  rw [← hl]
  refine run_convert_bytes_back w 30 9 5 ⟨g, 0, none⟩ cap l Tryd.underlying30 Tryd.underlying5 Tryd.underlying9 fun j hj => ?_
  rw [Addr.add_lit, Nat.zero_add]
  exact own_cell h j hj
theorem own_store {w : World} {base g cap n : Nat} {l : List UInt8} (h : w.ownsRow base 5 1 (.slice (some ⟨g, 0, none⟩) n cap) n (l.map cellB)) (j : Nat) (c : UInt8) :
    (w.setCell ⟨g, j, none⟩ (.int .u8 (c.toNat : Int))).ownsRow base 5 1 (.slice (some ⟨g, 0, none⟩) n cap) n ((l.set j c).map cellB) := by
  have := (h.stored j (cellB c)).1
  rw [← List.map_set] at this
  exact this
set_option maxHeartbeats 1600000 in
theorem field_any (salt : Int) (s : ByteArray) (hs : s.size ≤ maxLen) (w : World) :
    Calls Tryd.prog 12 #[.int .i64 salt, .string s] w fun e w' => e = .returned (.string ⟨(fieldS salt s.data.toList).toArray⟩) ∧ Below w.heap.size w w' := by
  obtain ⟨sn, hsn, hsn2⟩ := salt_range salt
  obtain ⟨mn, hmn, hmn2⟩ := mix_range salt s.data.toList
  have Hf := Lib.hid (show fieldS salt s.data.toList = hexS sn 4 ++ 36 :: hexS mn 16 by unfold fieldS; rw [hsn, hmn]; rfl)
  have hsn' : bits .and .i64 salt 65535 = (sn : Int) := hsn
  have Hmn := Lib.hid hmn
  clear hsn hmn
  obtain ⟨B, hB⟩ : ∃ B, w.heap.size = B := ⟨_, rfl⟩
  have HB := Lib.hid hB
  clear hB
  obtain ⟨i0, hi, hz0, hz1, hz2⟩ := info_parts Tryd.info5
  go_enter Tryd.func12, Tryd.ntmps12
  go_wp2_with (first | (go_at_call 18; refine (appendHex_at [] sn 4 B 0 4 (.slice none 0 0) (by omega) (by decide) (by decide) rfl rfl _ (World.ownsRow_nil _ _ _ _) (by rw [← HB.out]; exact Nat.le_refl _)).mono ?_; rintro e w1 ⟨v1, rfl, hown1, hb1⟩) | (at_builtin; refine wpList_append_own _ rfl _ _ 30 rfl B 5 i0 (.int .u8 0) 1 1 Tryd.underlying30 hi hz0 hz1 hz2 rfl (by decide) _ _ _ rfl (hown1.alloc _) ⟨w1.heap.size, 0, none⟩ 1 1 [.int .u8 36] rfl rfl ?c1 ?c2 ?c3 ?c4 ?c5 ?_))
  case c1 =>
    intro j u hj
    match j, hj with
    | 0, hj => simp at hj; subst hj; simp [Addr.add]
  case c2 => intro u hu; simp at hu; subst hu; rfl
  case c3 => unfold maxLen; simp
  case c4 => simp
  case c5 => have := hb1.size; have := HB.out; simp; omega
  intro v2 w2 hown2 hgrow _
  have hb2 : Below B w w2 := (hb1.alloc (by have := hb1.size; have := HB.out; omega) _).grown hgrow (by have := hb1.size; have := HB.out; simp; omega) (fun g hg => (hown1.lt g hg).1)
  have hown3 : w2.ownsRow B 5 1 v2 5 ((hexS sn 4 ++ [36]).map cellB) := by
    rw [List.map_append]
    exact hown2
  have hB2 : B ≤ w2.heap.size := by have := hb2.size; have := HB.out; omega
  have hx : (hexS sn 4 ++ [36]).length = 5 := by simp [hex_len]
  clear hown1 hown2 hgrow
  go_wp2_with (first | (go_at_call 10; refine (mix_any salt s hs _).mono ?_; rintro e w' ⟨rfl, rfl⟩; rw [Hmn.out]) | (go_at_call 18; refine (appendHex_at (hexS sn 4 ++ [36]) mn 16 B 5 21 v2 hmn2 (by decide) (by decide) hx rfl _ hown3 hB2).mono ?_; rintro e w3 ⟨v3, rfl, hown4, hb3⟩; obtain ⟨g, cap, rfl, hg⟩ := own_shape hown4 (by decide); have hstr := own_string hown4))
  go_ret
  refine ⟨ret_val ?_, ?_⟩
  · show Value.string _ = _
    rw [Hf.out]
  · rw [HB.out]; exact hb2.trans hb3
end Go.Proofs.YtikmdjepohmonaaDoor
