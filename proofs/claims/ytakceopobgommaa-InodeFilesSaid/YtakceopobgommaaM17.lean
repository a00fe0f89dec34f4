/- LE, LF: several texts in one. -/
import Derived.Test.YtakceopobgommaaM16

/- A file with names and holds: plain facts. -/
namespace Go.Proofs.Ytakceopobgommaa.Ino
set_option linter.unusedVariables false

/-- the name number m. -/
def nmB (m : Nat) : Bs := [110, UInt8.ofNat (97 + m)]
def nmE (i n : Nat) : List (Bs × Nat) := (List.range' i n).map fun m => (nmB m, 2)
/-- a file that has the names i to i + n - 1, h holds, the bytes s. -/
def heT (s : Bs) (i n h : Nat) : T := fun j => if j = 1 then { rootN 493 0 0 with ents := nmE i n } else if j = 2 then { madeN 0 420 1 1 0 2 with holds := h, data := s } else noN
variable {s : Bs} {i n h : Nat}
theorem he_1 : heT s i n h 1 = { rootN 493 0 0 with ents := nmE i n } := if_pos rfl
theorem he_2 : heT s i n h 2 = { madeN 0 420 1 1 0 2 with holds := h, data := s } := by unfold heT; rw [if_neg (by decide), if_pos rfl]
theorem he_o {j : Nat} (h1 : j ≠ 1) (h2 : j ≠ 2) : heT s i n h j = noN := by unfold heT; rw [if_neg h1, if_neg h2]
theorem nmB_inj {a b : Nat} (ha : a < 8) (hb : b < 8) (h : nmB a = nmB b) : a = b := by
  unfold nmB at h
  have h2 : UInt8.ofNat (97 + a) = UInt8.ofNat (97 + b) := by simpa using h
  have h3 := congrArg UInt8.toNat h2
  simp at h3
  omega
theorem nmB_ok {a : Nat} (ha : a < 8) : nameOk (nmB a) = true := by
  match a, ha with
  | 0, _ | 1, _ | 2, _ | 3, _ | 4, _ | 5, _ | 6, _ | 7, _ => rfl
theorem nmE_length : (nmE i n).length = n := by unfold nmE; simp
theorem nmE_cnt (x : Nat) : cnt (nmE i n) x = if x = 2 then n else 0 := by
  unfold nmE cnt
  rw [List.countP_map]
  by_cases e : x = 2
  · subst e
    rw [if_pos rfl]
    have : List.countP ((fun e : Bs × Nat => e.2 == 2) ∘ fun m => (nmB m, 2)) (List.range' i n) = (List.range' i n).length := List.countP_eq_length.2 fun _ _ => rfl
    rw [this]; simp
  · rw [if_neg e]
    refine List.countP_eq_zero.2 fun a _ => ?_
    simp
    omega
theorem nmE_find_none {k : Nat} (hk : k < 8) (hn : i + n ≤ 8) (hki : k < i ∨ i + n ≤ k) : findE (nmE i n) (nmB k) = none := by
  rw [findE_none]
  intro hm
  unfold nmE at hm
  simp only [List.map_map, List.mem_map, Function.comp] at hm
  obtain ⟨m, hm, he⟩ := hm
  have := nmB_inj (a := m) (b := k) (by have := List.mem_range'_1.1 hm; omega) hk he
  have := List.mem_range'_1.1 hm
  omega
theorem nmE_cons : nmE i (n + 1) = (nmB i, 2) :: nmE (i + 1) n := rfl
theorem nmE_snoc : nmE i (n + 1) = nmE i n ++ [(nmB (i + n), 2)] := by
  unfold nmE
  rw [List.range'_concat, List.map_append]
  simp
theorem he_links (x : Nat) : links (heT s i n h) x = if x = 2 then n else 0 := by
  have e := links_upd (heT s i n h) 1 (rootN 493 0 0) x (by decide)
  have e0 : links (upd (heT s i n h) 1 (rootN 493 0 0)) x = 0 := links_bare (fun j => by
    by_cases e1 : j = 1
    · rw [e1, upd_same]; rfl
    · rw [upd_other _ _ e1]
      by_cases e2 : j = 2
      · rw [e2, he_2]; rfl
      · rw [he_o e1 e2]; rfl) x
  rw [e0, he_1] at e
  have e3 : cnt (rootN 493 0 0).ents x = 0 := rfl
  have e4 : cnt ({ rootN 493 0 0 with ents := nmE i n } : Nod).ents x = if x = 2 then n else 0 := nmE_cnt x
  rw [e3, e4] at e
  omega
theorem he_is1 : isI (heT s i n h) 1 = true := by unfold isI; rw [show (1 : Int).toNat = 1 from rfl, he_1]; rfl
theorem he_is2 : isI (heT s i n h) 2 = true := by unfold isI; rw [show (2 : Int).toNat = 2 from rfl, he_2]; rfl
theorem he_normal (h0 : 0 < n + h) : Normal (heT s i n h) := by
  rintro j ⟨h1, h2, h3, h4, h5⟩
  by_cases e1 : j = 1
  · omega
  · by_cases e2 : j = 2
    · rw [e2, he_2] at h4
      rw [e2, he_links, if_pos rfl] at h5
      have : h = 0 := h4
      omega
    · rw [he_o e1 e2] at h3; cases h3
theorem he_ext {t : T} (h1 : t 1 = { rootN 493 0 0 with ents := nmE i n }) (h2 : t 2 = { madeN 0 420 1 1 0 2 with holds := h, data := s }) (ho : ∀ j, j ≠ 1 → j ≠ 2 → t j = noN) : t = heT s i n h := by
  funext j
  by_cases e1 : j = 1
  · rw [e1, h1, he_1]
  · by_cases e2 : j = 2
    · rw [e2, h2, he_2]
    · rw [ho j e1 e2, he_o e1 e2]
theorem he_made : twoT 493 0 0 (madeN 0 420 1 1 0 2) = heT [] 0 0 1 := he_ext (two_1 _ _ _ _) (two_2 _ _ _ _) fun j h1 h2 => two_o _ _ _ _ h1 h2
theorem he_make : makeP (newP 493 0 0) true 0 420 1 1 0 = (heT [] 0 0 1, 2, 0) := by rw [← he_made]; exact make_first _ _ _ _ _ _ _ _
theorem he_put (hs : s.length ≤ 4096) : putP (heT [] i n h) 2 0 s = (heT s i n h, 0) := by
  have hf : fileE (heT [] i n h) 2 = 0 := by
    unfold fileE
    rw [if_pos he_is2, show (2 : Int).toNat = 2 from rfl, he_2]; rfl
  unfold putP
  rw [if_neg (fun e => e hf), show (2 : Int).toNat = 2 from rfl, he_2, if_neg (by show ¬ ((0 : Int) < 0 ∨ ((0 : Nat) : Int) < 0); omega), if_neg (by omega)]
  refine congrArg (·, 0) (he_ext ?_ ?_ fun j h1 h2 => ?_)
  · rw [upd_other _ _ (by decide), he_1]
  · rw [upd_same]
    have e : (List.take (Int.toNat 0) ([] : Bs) ++ (s ++ List.drop (Int.toNat 0 + s.length) [])) = s := by simp
    show ({ madeN 0 420 1 1 0 2 with holds := h, data := (List.take (Int.toNat 0) ([] : Bs) ++ (s ++ List.drop (Int.toNat 0 + s.length) [])) } : Nod) = _
    rw [e]
  · rw [upd_other _ _ h2, he_o h1 h2]
theorem he_enter (hn : n < 8) (h0 : i = 0) : enterP (heT s i n h) 1 (nmB n) 2 = (heT s i (n + 1) h, 0) := by
  subst h0
  unfold enterP
  rw [if_pos ⟨he_is1, he_is2⟩, show (1 : Int).toNat = 1 from rfl, show (2 : Int).toNat = 2 from rfl, he_1, he_2]
  dsimp only
  rw [if_pos (show (rootN 493 0 0).kind = 1 from rfl), if_pos (nmB_ok hn), nmE_find_none hn (by omega) (.inr (by omega)), if_neg (by exact Bool.false_ne_true), if_neg (by
    rw [he_links, if_pos rfl]
    rintro (e | ⟨e, _⟩ | e)
    · omega
    · exact absurd (show (0 : Int) = 1 from e) (by decide)
    · omega), if_neg (by rw [nmE_length]; omega), if_neg (by rintro ⟨e, _⟩; exact absurd (show (0 : Int) = 1 from e) (by decide))]
  refine congrArg (·, 0) ?_
  unfold add
  rw [setPar_not _ _ _ (by rw [setEnts_kind, he_2]; exact (by decide : (0 : Int) ≠ 1)), he_1]
  refine he_ext ?_ ?_ fun j h1 h2 => ?_
  · unfold setEnts
    rw [upd_same, he_1, nmE_snoc, Nat.zero_add]
  · unfold setEnts
    rw [upd_other _ _ (by decide), he_2]
  · unfold setEnts
    rw [upd_other _ _ h1, he_o h1 h2]
theorem he_hold : holdP (heT s i n h) 2 = (heT s i n (h + 1), true) := by
  unfold holdP
  rw [if_pos he_is2, show (2 : Int).toNat = 2 from rfl, he_2]
  refine congrArg (·, true) (he_ext ?_ ?_ fun j h1 h2 => ?_)
  · rw [upd_other _ _ (by decide), he_1]
  · rw [upd_same]
  · rw [upd_other _ _ h2, he_o h1 h2]
theorem he_remove (hn : i + n < 8) (h1 : 0 < h) : removeP (heT s i (n + 1) h) 1 (nmB i) = (heT s (i + 1) n h, 0) := by
  have hrem : rem (heT s i (n + 1) h) 1 (nmB i) 2 = heT s (i + 1) n h := by
    unfold rem
    rw [setPar_not _ _ _ (by rw [setEnts_kind, he_2]; exact (by decide : (0 : Int) ≠ 1)), he_1]
    refine he_ext ?_ ?_ fun j h1 h2 => ?_
    · unfold setEnts
      rw [upd_same, he_1, nmE_cons]
      unfold erE
      rw [if_pos rfl]
    · unfold setEnts
      rw [upd_other _ _ (by decide), he_2]
    · unfold setEnts
      rw [upd_other _ _ h1, he_o h1 h2]
  unfold removeP
  rw [if_pos he_is1, show (1 : Int).toNat = 1 from rfl, he_1]
  dsimp only
  rw [if_pos (show (rootN 493 0 0).kind = 1 from rfl), nmE_cons]
  have hf : findE ((nmB i, 2) :: nmE (i + 1) n) (nmB i) = some 2 := by unfold findE; rw [if_pos rfl]
  rw [hf]
  dsimp only
  rw [he_2, if_neg (fun e => e rfl), hrem, goneP_of_normal (he_normal (by omega))]
theorem he_stat : statP (heT s i n h) 2 = (⟨2, 0, 420, 1, 1, n, s.length, 0⟩, true) := by
  unfold statP
  rw [if_pos he_is2, show (2 : Int).toNat = 2 from rfl, he_links, if_pos rfl, he_2]
  show ((⟨2, 0, 420, 1, 1, n, (s.length : Int) + ((0 : Nat) : Int), 0⟩ : Inf), true) = _
  rw [show (s.length : Int) + ((0 : Nat) : Int) = s.length by omega]
theorem he_data : dataP (heT s i n h) 2 = s := by
  unfold dataP
  rw [if_pos he_is2, show (2 : Int).toNat = 2 from rfl, he_2]
theorem he_drop (h0 : 0 < h) : dropP (heT s i 0 (h + 1)) 2 = (heT s i 0 h, true) := by
  unfold dropP
  rw [show (2 : Int).toNat = 2 from rfl, if_pos ⟨he_is2, by rw [he_2]; exact Nat.succ_ne_zero _⟩, he_2]
  have : upd (heT s i 0 (h + 1)) 2 { madeN 0 420 1 1 0 2 with holds := h, data := s } = heT s i 0 h := he_ext (by rw [upd_other _ _ (by decide), he_1]) (upd_same _ _ _) fun j h1 h2 => by rw [upd_other _ _ h2, he_o h1 h2]
  show (goneP (upd (heT s i 0 (h + 1)) 2 { madeN 0 420 1 1 0 2 with holds := h, data := s }), true) = _
  rw [this, goneP_of_normal (he_normal (by omega))]
theorem he_bound (hh : h ≤ 1000000) (k : Nat) : (heT s i n h k).holds ≤ 1000000 := by
  by_cases e1 : k = 1
  · rw [e1, he_1]; exact Nat.zero_le _
  · by_cases e2 : k = 2
    · rw [e2, he_2]; exact hh
    · rw [he_o e1 e2]; exact Nat.zero_le _
/-- the last hold is let go of. -/
theorem he_last : ∃ u, dropP (heT s i 0 1) 2 = (u, true) ∧ isI u 2 = false ∧ ∀ k, (u k).holds ≤ 1000000 := by
  refine ⟨goneP (heT s i 0 0), ?_, ?_, fun k => Nat.le_trans (gone_holds _ k) ?_⟩
  · unfold dropP
    rw [show (2 : Int).toNat = 2 from rfl, if_pos ⟨he_is2, by rw [he_2]; exact Nat.succ_ne_zero _⟩, he_2]
    have : upd (heT s i 0 1) 2 { madeN 0 420 1 1 0 2 with holds := 0, data := s } = heT s i 0 0 := he_ext (by rw [upd_other _ _ (by decide), he_1]) (upd_same _ _ _) fun j h1 h2 => by rw [upd_other _ _ h2, he_o h1 h2]
    show (goneP (upd (heT s i 0 1) 2 { madeN 0 420 1 1 0 2 with holds := 0, data := s }), true) = _
    rw [this]
  · have : (goneP (heT s i 0 0) 2).is = false := gone_del ⟨by decide, by decide, by rw [he_2]; rfl, by rw [he_2], by rw [he_links, if_pos rfl]⟩
    unfold isI
    rw [show (2 : Int).toNat = 2 from rfl, this, Bool.and_false]
  · exact he_bound (by omega) k
end Go.Proofs.Ytakceopobgommaa.Ino
/- The walk of InodeHeld. -/
namespace Go.Proofs.Ytakceopobgommaa
open Go.RowKit Ino Go.Maps
set_option linter.unusedVariables false
set_option linter.unusedSimpArgs false

theorem and7 (a : Int) : ∃ n : Nat, n ≤ 7 ∧ bits .and .i64 a 7 = (n : Int) := by
  refine ⟨(a % 18446744073709551616).toNat &&& 7, Nat.and_le_right, ?_⟩
  show IntKind.i64.wrap ((BitVec.ofInt 64 a &&& BitVec.ofInt 64 7).toNat : Int) = _
  rw [BitVec.toNat_and, toNat_ofInt, toNat_ofInt, show ((7 : Int) % 18446744073709551616).toNat = 7 from by decide]
  have h : (a % 18446744073709551616).toNat &&& 7 ≤ 7 := Nat.and_le_right
  rw [IntKind.wrap_i64]; omega
theorem nm_str (c : UInt8) : ((⟨#[110]⟩ ++ ⟨#[c]⟩ : ByteArray)).data.toList = [110, c] := by simp
/-- '[]byte{c}' as a string. -/
theorem one_str (wr : World) (k : Nat) (hk : k < 8) (c : UInt8) (hc : c = UInt8.ofNat (97 + k)) : (convert 57 9 (.slice (some ⟨wr.heap.size, 0, none⟩) 1 1)).run Try.prog (wr.alloc (Obj.cells #[.int .u8 (97 + (k : Int))] 5)) = .ok (.string ⟨#[c]⟩) (wr.alloc (Obj.cells #[.int .u8 (97 + (k : Int))] 5)) := by
  have hc2 : (97 + (k : Int)) = (c.toNat : Int) := by rw [hc]; simp; omega
  rw [hc2]
  refine run_convert_bytes_back _ 57 9 5 ⟨wr.heap.size, 0, none⟩ 1 [c] Try.underlying57 Try.underlying5 Try.underlying9 fun j hj => ?_
  obtain rfl : j = 0 := by simp at hj; omega
  rw [Addr.add_lit, Nat.zero_add]
  exact cell_of_row _ _ _ _ _ (0, 0) (heap_alloc_new wr _)
/-- .. behind another new block. -/
theorem one_str2 (k : Nat) (hk : k < 8) (c : UInt8) (hc : c = UInt8.ofNat (97 + k)) (wr : World) (o : Obj) : (convert 57 9 (.slice (some ⟨wr.heap.size + 1, 0, none⟩) 1 1)).run Try.prog ((wr.alloc o).alloc (Obj.cells #[.int .u8 (97 + (k : Int))] 5)) = .ok (.string ⟨#[c]⟩) ((wr.alloc o).alloc (Obj.cells #[.int .u8 (97 + (k : Int))] 5)) := by
  have h := one_str (wr.alloc o) k hk c hc
  rw [show (wr.alloc o).heap.size = wr.heap.size + 1 by simp] at h
  exact h
def hRel1 (w : World) (A : Nat) (S : Bs) (n : Nat) (i : Value) (wr : World) : Prop := ∃ k : Nat, k ≤ n ∧ i = .int .i64 k ∧ PS w wr A (heT S 0 k 1) ∧ Sound (heT S 0 k 1)
def hRel2 (w : World) (A : Nat) (S : Bs) (n m : Nat) (i : Value) (wr : World) : Prop := ∃ k : Nat, k ≤ m ∧ i = .int .i64 k ∧ PS w wr A (heT S 0 n (k + 1)) ∧ Sound (heT S 0 n (k + 1))
def hRel3 (w : World) (A : Nat) (S : Bs) (n m : Nat) (i : Value) (wr : World) : Prop := ∃ k r : Nat, k + r = n ∧ i = .int .i64 k ∧ PS w wr A (heT S k r (m + 1)) ∧ Sound (heT S k r (m + 1))
def hRel4 (w : World) (A : Nat) (S : Bs) (n m : Nat) (i : Value) (wr : World) : Prop := ∃ k : Nat, i = .int .i64 k ∧ ((∃ r, k + r = m ∧ PS w wr A (heT S n 0 (r + 1)) ∧ Sound (heT S n 0 (r + 1))) ∨ (k = m + 1 ∧ ∃ u, PS w wr A u ∧ Sound u ∧ isI u 2 = false ∧ ∀ k, (u k).holds ≤ 1000000))
set_option maxHeartbeats 4000000 in
set_option maxRecDepth 100000 in
theorem held_walk (a0 a1 : Int) (s : ByteArray) (w : World) (_ : (Lit.int .i64 a0).wf = true) (_ : (Lit.int .i64 a1).wf = true) (hs : s.size ≤ maxLen) : Calls Try.prog 8 #[.int .i64 a0, .int .i64 a1, .string s] w fun e w' => e = .returned (.bool true) ∧ Below w.heap.size w w' := by
  unfold maxLen at hs
  by_cases hbig : 4096 < s.size
  · go_enter Try.func8, Try.ntmps8
    go_wp2_with (first
      | (go_at_call 9; refine (shown_any _).mono ?_; rintro e w1 ⟨rfl, b1⟩)
      | (go_at_call 10; refine (ps_new b1 493 0 0 (by unfold wfI; omega) (by decide)).mono ?_; rintro e w2 ⟨A, rfl, p2⟩))
    go_ret
    exact ⟨rfl, p2.below⟩
  · obtain ⟨n, hn7, hn⟩ := and7 a0
    obtain ⟨m, hm7, hm⟩ := and7 a1
    have hsl : s.data.toList.length ≤ 4096 := by simp; omega
    have Hback := Lib.hid (str_back s)
    have s_mk := he_make
    rw [show true = rMake 0 420 1 1 0 by decide] at s_mk
    have hs1 : Sound (heT [] 0 0 1) := by
      have := sound_make s_sd0 (rMake 0 420 1 1 0) 0 420 1 1 0 (fun _ => .inl rfl)
      rw [s_mk] at this
      exact this
    have s_put := he_put (i := 0) (n := 0) (h := 1) hsl
    have hs2 : Sound (heT s.data.toList 0 0 1) := by
      have := sound_put hs1 2 0 s.data.toList
      rw [s_put] at this
      exact this
    have HMK := Lib.hid s_mk
    have HPUT := Lib.hid s_put
    have HS1 := Lib.hid hs1
    have HS2 := Lib.hid hs2
    clear s_mk s_put hs1 hs2
    generalize hS : s.data.toList = S at *
    have HSS := Lib.hid hS
    clear hS
    go_enter Try.func8, Try.ntmps8
    go_wp2_with (first
      | (go_at_call 9; refine (shown_any _).mono ?_; rintro e w1 ⟨rfl, b1⟩)
      | (go_at_call 10; refine (ps_new b1 493 0 0 (by unfold wfI; omega) (by decide)).mono ?_; rintro e w2 ⟨A, rfl, p2⟩)
      | (go_at_call 18; refine (ps_make_at p2 s_sd0.sd 0 420 1 1 0 (by unfold wfI; omega) HMK.out (z := 2) (cz := 0) rfl rfl).mono ?_; rintro e w3 ⟨rfl, p3⟩)
      | (go_at_call 19; refine (ps_put_at p3 HS1.out.sd 2 0 s (by omega) (by omega) (by rw [HSS.out]; exact HPUT.out) (cz := 0) rfl).mono ?_; rintro e w4 ⟨rfl, p4⟩))
    have HB := Lib.hid fun k r h => he_bound (s := S) (i := k) (n := r) (h := h)
    go_loopw [11] (fun i wr => hRel1 w A S n i wr) (fun i _ => n - (intOf i).toNat)
    case atStart => exact ⟨0, Nat.zero_le _, rfl, p4, HS2.out⟩
    case round =>
      obtain ⟨k, hk, rfl, hp, hso⟩ := hrel
      by_cases hlt : k < n
      · obtain ⟨c, hc⟩ : ∃ c, c = UInt8.ofNat (97 + k) := ⟨_, rfl⟩
        have hconv := one_str wr k (by omega) c hc
        have hen := he_enter (s := S) (i := 0) (n := k) (h := 1) (by omega) rfl
        have hnm : ((⟨#[110]⟩ ++ ⟨#[c]⟩ : ByteArray)).data.toList = nmB k := by rw [nm_str, hc]; rfl
        rw [← hnm] at hen
        have hsn : Sound (heT S 0 (k + 1) 1) := by
          have := sound_enter hso 1 ((⟨#[110]⟩ ++ ⟨#[c]⟩ : ByteArray)).data.toList 2
          rw [hen] at this
          exact this
        have HC := Lib.hid (ps_enter_at (hp.alloc (Obj.cells #[.int .u8 (97 + (k : Int))] 5)) hso.sd 1 2 (⟨#[110]⟩ ++ ⟨#[c]⟩) (by simp [ByteArray.size]; decide) hen (cz := 0) rfl)
        have HSN := Lib.hid hsn
        clear hen hnm hsn hso hp hc
        go_wp2_with (go_at_call 22; refine HC.out.mono ?_; rintro e w5 ⟨rfl, p5⟩)
        go_roundw
        case rel => exact ⟨k + 1, by omega, by go_num, p5, HSN.out⟩
        case measure => simp [intOf]; omega
      · obtain rfl : k = n := by omega
        have HSO := Lib.hid hso
        clear hso
        go_wp2
        go_loopw [12] (fun i wr => hRel2 w A S k m i wr) (fun i _ => m - (intOf i).toNat)
        case atStart => exact ⟨0, Nat.zero_le _, rfl, hp, HSO.out⟩
        case round =>
          obtain ⟨j, hj, rfl, hp2, hso2⟩ := hrel
          by_cases hlt2 : j < m
          · have hho := he_hold (s := S) (i := 0) (n := k) (h := j + 1)
            have hsn : Sound (heT S 0 k (j + 1 + 1)) := by
              have := sound_hold hso2 2
              rw [hho] at this
              exact this
            have HC := Lib.hid (ps_hold_at hp2 2 (HB.out 0 k (j + 1) (by omega)) hho)
            have HSN := Lib.hid hsn
            clear hho hsn hso2 hp2
            go_wp2_with (go_at_call 25; refine HC.out.mono ?_; rintro e w5 ⟨rfl, p5⟩; go_frame)
            go_roundw
            case rel => exact ⟨j + 1, by omega, by go_num, p5, HSN.out⟩
            case measure => simp [intOf]; omega
          · obtain rfl : j = m := by omega
            have HSO2 := Lib.hid hso2
            clear hso2
            go_wp2
            go_loopw [13] (fun i wr => hRel3 w A S k j i wr) (fun i _ => k - (intOf i).toNat)
            case atStart => exact ⟨0, k, by omega, rfl, hp2, HSO2.out⟩
            case round =>
              obtain ⟨q, r, hqr, rfl, hp3, hso3⟩ := hrel
              cases r with
              | succ r =>
                obtain ⟨c, hc⟩ : ∃ c, c = UInt8.ofNat (97 + q) := ⟨_, rfl⟩
                have hnm : ((⟨#[110]⟩ ++ ⟨#[c]⟩ : ByteArray)).data.toList = nmB q := by rw [nm_str, hc]; rfl
                have hrm := he_remove (s := S) (i := q) (n := r) (h := j + 1) (by omega) (by omega)
                rw [← hnm] at hrm
                have hsn : Sound (heT S (q + 1) r (j + 1)) := by
                  have := sound_remove hso3 1 ((⟨#[110]⟩ ++ ⟨#[c]⟩ : ByteArray)).data.toList
                  rw [hrm] at this
                  exact this
                have HC1 := Lib.hid (ps_stat_at hp3 hso3.sd 2 (he_stat (s := S) (i := q) (n := r + 1) (h := j + 1)))
                have HSN := Lib.hid hsn
                have HRM := Lib.hid fun wx (h : PS w wx A (heT S q (r + 1) (j + 1))) => ps_remove_at h hso3 1 (⟨#[110]⟩ ++ ⟨#[c]⟩) (by simp [ByteArray.size]; decide) hrm (cz := 0) rfl
                have hconv := one_str2 q (by omega) c hc
                have e1 : (((r + 1 : Nat) : Int) == ((k : Int) - (q : Int))) = true := by rw [beq_iff_eq]; omega
                have e2 : ((k : Int) - (q : Int)) = ((r + 1 : Nat) : Int) := by omega
                have hr7 : r + 1 ≤ 7 := by omega
                clear hnm hrm hsn hso3 hp3 hc
                go_wp2_with (first
                  | (go_at_call 17; refine HC1.out.mono ?_; rintro e w5 ⟨rfl, p5, b5⟩)
                  | (go_at_call 26; refine (HRM.out _ ((p5.alloc _).alloc _)).mono ?_; rintro e w6 ⟨rfl, p6⟩))
                go_roundw
                case rel => exact ⟨q + 1, r, by omega, by go_num, p6, HSN.out⟩
                case measure => simp [intOf]; omega
              | zero =>
                obtain rfl : q = k := by omega
                have HSO3 := Lib.hid hso3
                clear hso3
                go_wp2
                go_loopw [16] (fun i wr => hRel4 w A S q j i wr) (fun i _ => j + 1 - (intOf i).toNat)
                case atStart => exact ⟨0, rfl, .inl ⟨j, by omega, hp3, HSO3.out⟩⟩
                case round =>
                  obtain ⟨x, rfl, hcase⟩ := hrel
                  rcases hcase with ⟨r, hxr, hp4, hso4⟩ | ⟨hx, u, hp4, hso4, hno, hbu⟩
                  · have hle : x ≤ j := by omega
                    have HC1 := Lib.hid (ps_stat_at hp4 hso4.sd 2 (he_stat (s := S) (i := q) (n := 0) (h := r + 1)))
                    have hdat := fun wx (h : PS w wx A (heT S q 0 (r + 1))) => ps_data h 2
                    rw [he_data, Hback.out] at hdat
                    have HD := Lib.hid hdat
                    have hdr : ∃ u, dropP (heT S q 0 (r + 1)) 2 = (u, true) ∧ Sound u ∧ ((∃ r', x + 1 + r' = j ∧ u = heT S q 0 (r' + 1)) ∨ (x + 1 = j + 1 ∧ isI u 2 = false ∧ ∀ k, (u k).holds ≤ 1000000)) := by
                      cases r with
                      | zero =>
                        obtain ⟨u, h1, h2, h3⟩ := he_last (s := S) (i := q)
                        refine ⟨u, h1, ?_, .inr ⟨by omega, h2, h3⟩⟩
                        have := sound_drop hso4 2
                        rw [h1] at this
                        exact this
                      | succ r =>
                        have h1 := he_drop (s := S) (i := q) (h := r + 1) (by omega)
                        refine ⟨_, h1, ?_, .inl ⟨r, by omega, rfl⟩⟩
                        have := sound_drop hso4 2
                        rw [h1] at this
                        exact this
                    obtain ⟨u, hu1, hu2, hu3⟩ := hdr
                    have HDR := Lib.hid fun wx (h : PS w wx A (heT S q 0 (r + 1))) => ps_drop_at h hso4 2 (HB.out q 0 (r + 1) (by omega)) hu1
                    have HU2 := Lib.hid hu2
                    have HU3 := Lib.hid hu3
                    clear hdat hu1 hu2 hu3 hso4 hp4
                    go_wp2_with (first
                      | (go_at_call 17; refine HC1.out.mono ?_; rintro e w5 ⟨rfl, p5, b5⟩)
                      | (go_at_call 20; refine (HD.out _ (p5.alloc _)).mono ?_; rintro e w' ⟨rfl, rfl⟩)
                      | (go_at_call 24; refine (HDR.out _ (p5.alloc _)).mono ?_; rintro e w6 ⟨rfl, p6⟩))
                    go_roundw
                    case rel =>
                      refine ⟨x + 1, by go_num, ?_⟩
                      rcases HU3.out with ⟨r', h1, h2⟩ | ⟨h1, h2, h3⟩
                      · exact .inl ⟨r', h1, by rw [← h2]; exact p6, by rw [← h2]; exact HU2.out⟩
                      · exact .inr ⟨h1, u, p6, HU2.out, h2, h3⟩
                    case measure => simp [intOf]; omega
                  · subst hx
                    have HC1 := Lib.hid (ps_stat_at hp4 hso4.sd 2 (stat_no hno))
                    have hdr : dropP u 2 = (u, false) := by
                      unfold dropP
                      rw [if_neg (by rw [hno]; rintro ⟨h, _⟩; cases h)]
                    have HDR := Lib.hid fun wx (h : PS w wx A u) => ps_drop_at h hso4 2 hbu hdr
                    clear hdr hso4 hp4 hno
                    go_wp2_with (first
                      | (go_at_call 17; refine HC1.out.mono ?_; rintro e w5 ⟨rfl, p5, b5⟩)
                      | (go_at_call 24; refine (HDR.out _ (p5.alloc _)).mono ?_; rintro e w6 ⟨rfl, p6⟩))
                    go_ret
                    exact ⟨rfl, p6.below⟩
end Go.Proofs.Ytakceopobgommaa
