/- Contract of the program's members. -/
import Derived.Test.YtacohhmhggljhaaHD
namespace Go.Proofs.Ytacohhmhggljhaa
open Go.RowKit
set_option linter.unusedVariables false
set_option linter.unusedSimpArgs false
def inR (lo hi x : UInt8) : Bool := decide (lo.toNat ≤ x.toNat) && decide (x.toNat ≤ hi.toNat)
theorem inR_self (a x : UInt8) : inR a a x = (a == x) := by
  unfold inR
  rw [Bool.eq_iff_iff, Bool.and_eq_true, decide_eq_true_eq, decide_eq_true_eq, beq_iff_eq]
  constructor
  · intro h; exact UInt8.toNat_inj.1 (by omega)
  · rintro rfl; omega
theorem mem_range (t v : Tok) (r : List Tok) (x : UInt8) : mem (t :: (45, false) :: v :: r) x = (inR t.1 v.1 x || mem r x) := by
  rw [mem, if_pos rfl]; rfl
theorem mem_single (t : Tok) (r : List Tok) (h : ∀ v q, r ≠ (45, false) :: v :: q) (x : UInt8) : mem (t :: r) x = (inR t.1 t.1 x || mem r x) := by
  rw [inR_self]
  cases r with
  | nil => simp [mem]
  | cons u r =>
    cases r with
    | nil => simp [mem]
    | cons v r =>
      have : u ≠ (45, false) := fun e => h v r (by rw [e])
      rw [mem, if_neg this]
def addR (f : UInt8 → Bool) (lo j : Nat) : UInt8 → Bool := fun x => f x || (decide (lo ≤ x.toNat) && decide (x.toNat < j))
theorem addR_start (f : UInt8 → Bool) (lo : Nat) : addR f lo lo = f := by
  funext x
  unfold addR
  have : (decide (lo ≤ x.toNat) && decide (x.toNat < lo)) = false := by
    rw [Bool.eq_false_iff]; intro e; rw [Bool.and_eq_true, decide_eq_true_eq, decide_eq_true_eq] at e; omega
  rw [this, Bool.or_false]
theorem ofNat_nat {j : Nat} (h : j < 256) : (UInt8.ofNat j).toNat = j := by rw [UInt8.toNat_ofNat']; omega
theorem addR_next (f : UInt8 → Bool) (lo j : Nat) (hl : lo ≤ j) (hj : j < 256) : insF (addR f lo j) (UInt8.ofNat j) = addR f lo (j + 1) := by
  funext x
  unfold insF addR
  rw [Bool.or_assoc]
  congr 1
  rw [Bool.eq_iff_iff, Bool.or_eq_true, Bool.and_eq_true, Bool.and_eq_true, beq_iff_eq, decide_eq_true_eq, decide_eq_true_eq, decide_eq_true_eq]
  have h := ofNat_nat hj
  constructor
  · rintro (h1 | rfl)
    · omega
    · omega
  · intro h1
    by_cases h2 : x.toNat < j
    · exact .inl ⟨h1.1, h2⟩
    · exact .inr (UInt8.toNat_inj.1 (by omega))
theorem addR_end (f : UInt8 → Bool) (lo hi : UInt8) (j : Nat) (h1 : lo.toNat ≤ j) (h2 : j ≤ hi.toNat + 1 ∨ j = lo.toNat) (h3 : hi.toNat < j) (x : UInt8) : addR f lo.toNat j x = (f x || inR lo hi x) := by
  unfold addR inR
  congr 1
  rw [Bool.eq_iff_iff, Bool.and_eq_true, Bool.and_eq_true, decide_eq_true_eq, decide_eq_true_eq, decide_eq_true_eq]
  omega
/-- what is left of the members. -/
def Lft (L ts : List Tok) (f : UInt8 → Bool) : Prop := ∀ x, mem L x = (f x || mem ts x)
theorem Lft.start (L : List Tok) : Lft L L noneF := fun x => rfl
theorem Lft.done {L : List Tok} {f : UInt8 → Bool} (h : Lft L [] f) : f = mem L := by
  funext x; have := h x; simp [mem] at this; exact this.symm
theorem Lft.next {L ts r : List Tok} {f g : UInt8 → Bool} {lo hi : UInt8} (h : Lft L ts f) (hm : ∀ x, mem ts x = (inR lo hi x || mem r x)) (hg : ∀ x, g x = (f x || inR lo hi x)) : Lft L r g := fun x => by
  rw [h x, hm x, hg x, Bool.or_assoc]
theorem add_nat (B : Nat) (f : UInt8 → Bool) (lo j : Nat) (w : World) (h : SetAt w B (addR f lo j)) (hl : lo ≤ j) (hj : j < 256) :
    Calls Try.prog 32 #[.pointer (some ⟨B, 0, none⟩), .int .u8 (j : Int)] w fun e w' => (∃ v, e = .returned v) ∧ Turned B (addR f lo (j + 1)) w w' := by
  have := add_any B _ (UInt8.ofNat j) w h
  rw [ofNat_nat hj, addR_next f lo j hl hj] at this
  exact this
theorem members_results (W : World) (B : Nat) (f : UInt8 → Bool) (h : SetAt W B f) (tmps : Array Value)
    (h2 : tmps.getD 2 undef = .pointer (some ⟨B, 0, none⟩)) :
    (results Try.f34 tmps).run Try.prog W = .ok (setV f) W := by
  have c0 := h.cell 0
  have c1 := h.cell 1
  have c2 := h.cell 2
  have c3 := h.cell 3
  unfold setV
  simp only [List.getElem?_toArray, List.getElem?_cons_zero, List.getElem?_cons_succ] at c0 c1 c2 c3
  simp only [Array.getD_eq_getD_getElem?] at h2
  simp only [results, Try.f34]
  simp [go_sem, h2, c0, c1, c2, c3]
set_option maxHeartbeats 1000000 in
set_option maxRecDepth 100000 in
theorem members_any (s : ByteArray) (hs : s.size ≤ 70368744177664) (w : World) :
    Calls Try.prog 34 #[.string s] w fun e w' => e = .returned (setV (mem (toks s.data.toList))) ∧ Below w.heap.size w w' := by
  have hs' : s.size ≤ maxLen := by unfold maxLen; omega
  have z0 : (.int .u64 0 : Value) = wd noneF 0 := by unfold wd; rw [word_none]; rfl
  have z1 : (.int .u64 0 : Value) = wd noneF 1 := by unfold wd; rw [word_none]; rfl
  have z2 : (.int .u64 0 : Value) = wd noneF 2 := by unfold wd; rw [word_none]; rfl
  have z3 : (.int .u64 0 : Value) = wd noneF 3 := by unfold wd; rw [word_none]; rfl
  have hB1 : SetAt ((w.alloc (.cells #[.int .u64 0, .int .u64 0, .int .u64 0, .int .u64 0] 37)).alloc (.cells #[.int .u64 0, .int .u64 0, .int .u64 0, .int .u64 0] 37)) (w.heap.size + 1) noneF := by
    have := Blk.new (w.alloc (.cells #[.int .u64 0, .int .u64 0, .int .u64 0, .int .u64 0] 37)) 37 #[.int .u64 0, .int .u64 0, .int .u64 0, .int .u64 0]
    rw [World.size_alloc] at this
    unfold SetAt
    rw [← z0, ← z1, ← z2, ← z3]
    exact this
  clear z0 z1 z2 z3
  have HB1 := Lib.hid hB1
  clear hB1
  go_enter Try.func34, Try.ntmps34
  go_wp2
  go_loopw [4, 5, 6, 7, 8] (fun i a b c d wr => ∃ (k : Nat) (ts : List Tok) (f : UInt8 → Bool), i = .int .i64 k ∧ At s k ts ∧ Lft (toks s.data.toList) ts f ∧ SetAt wr (w.heap.size + 1) f ∧ Below w.heap.size w wr ∧ Blk wr w.heap.size 37 #[.int .u64 0, .int .u64 0, .int .u64 0, .int .u64 0]) (fun i _ _ _ _ _ => s.size - (intOf i).toNat)
  case atStart => exact ⟨0, toks s.data.toList, noneF, rfl, ⟨Nat.zero_le _, rfl⟩, Lft.start _, HB1.out, ((Below.refl _ _).alloc (Nat.le_refl _) _).alloc (by simp) _, (Blk.new _ _ _).alloc _⟩
  case round =>
    obtain ⟨k, ts, f, rfl, hat, hl, hset, hb, hR⟩ := hrel
    clear HB1
    cases ts with
    | nil =>
      have he := hat.end
      subst he
      have HF := Lib.hid hl.done
      have hc0 := Blk.cell hset 0
      have hc1 := Blk.cell hset 1
      have hc2 := Blk.cell hset 2
      have hc3 := Blk.cell hset 3
      have hr0 := hR.cell 0
      have hr1 := hR.cell 1
      have hr2 := hR.cell 2
      have hr3 := hR.cell 3
      have hf0 := hR.frozen 0
      have hf1 := hR.frozen 1
      have hf2 := hR.frozen 2
      have hf3 := hR.frozen 3
      simp only [List.getElem?_toArray, List.getElem?_cons_zero, List.getElem?_cons_succ] at hc0 hc1 hc2 hc3 hr0 hr1 hr2 hr3
      clear hat hl hset
      have HV := Lib.hid (fun W (h : Blk W w.heap.size 37 #[wd f 0, wd f 1, wd f 2, wd f 3]) => members_results W w.heap.size f h)
      unfold wd at hc0 hc1 hc2 hc3 HV
      generalize word f 0 = n0 at *
      generalize word f 1 = n1 at *
      generalize word f 2 = n2 at *
      generalize word f 3 = n3 at *
      go_wp2
      refine bodyPost_ret (HV.out _ ((((hR.set 0 _).set 1 _).set 2 _).set 3 _) _ rfl) rfl ⟨ret_val (congrArg setV HF.out), ?_⟩
      exact (((hb.setCell (p := ⟨w.heap.size, 0, none⟩) (by simp) _).setCell (p := ⟨w.heap.size, 1, none⟩) (by simp) _).setCell (p := ⟨w.heap.size, 2, none⟩) (by simp) _).setCell (p := ⟨w.heap.size, 3, none⟩) (by simp) _
    | cons t r =>
      have hlt := hat.lt
      have htl := tl_pos t
      have hn := hat.next
      have hle := hn.1
      have HC := Lib.hid (fun w => byteAt_any s k t r hat hs' w)
      clear hat
      generalize tl t = a at *
      by_cases hA : ∃ v q, r = (45, false) :: v :: q
      · obtain ⟨v, q, rfl⟩ := hA
        have hn2 : At s (k + a + 1) (v :: q) := hn.next
        have hlt2 := hn2.lt
        have htl2 := tl_pos v
        have hn3 := hn2.next
        have hle3 := hn3.1
        have HC2 := Lib.hid (fun w => (by have := byteAt_any s _ v q hn2 hs' w; simp only [Int.natCast_add, Int.cast_ofNat_Int] at this; exact this : Calls Try.prog 25 #[.string s, .int .i64 ((k : Int) + a + 1)] w fun e w' => e = .returned (.tuple #[.int .u8 v.1.toNat, .int .i64 (tl v)]) ∧ w = w'))
        have HN := Lib.hid hn3
        clear hn3
        generalize tl v = b at *
        have HL := Lib.hid (fun (g : UInt8 → Bool) (hg : ∀ x, g x = (f x || inR t.1 v.1 x)) => Lft.next hl (mem_range t v q) hg)
        have h45 : s[k + a] = 45 := by
          rcases tok_at s (k + a) hn.lt with ⟨h2, h9, e⟩ | ⟨h9, e⟩ <;> rw [hn.2] at e <;> injection e with e1 e2
          · exact Bool.noConfusion (congrArg Prod.snd e1)
          · exact (congrArg Prod.fst e1).symm
        have g : (((s[k + a].toNat : Int) == 45) : Bool) = true := u8_true _ 45 h45
        clear hn hn2 h45 hl hs'
        have hlo := t.1.toNat_lt
        have hhi := v.1.toNat_lt
        go_wp2_with (first | (go_at_call 25; (with_reducible refine (HC2.out _).mono ?_); rintro e w' ⟨rfl, rfl⟩) | (go_at_call 25; (with_reducible refine (HC.out _).mono ?_); rintro e w' ⟨rfl, rfl⟩))
        obtain ⟨wo, rfl⟩ : ∃ wo : World, wo = wr := ⟨_, rfl⟩
        go_loopw [8] (fun b w2 => ∃ j : Nat, b = .int .i64 j ∧ t.1.toNat ≤ j ∧ (j ≤ v.1.toNat + 1 ∨ j = t.1.toNat) ∧ SetAt w2 (w.heap.size + 1) (addR f t.1.toNat j) ∧ Below w.heap.size w w2 ∧ Blk w2 w.heap.size 37 #[.int .u64 0, .int .u64 0, .int .u64 0, .int .u64 0]) (fun b _ => 256 - (intOf b).toNat)
        case atStart => exact ⟨t.1.toNat, rfl, Nat.le_refl _, .inr rfl, by rw [addR_start]; exact hset, hb, hR⟩
        case round =>
          clear hset hb hR
          obtain ⟨j, rfl, hj1, hj2, hset2, hb2, hR2⟩ := hrel
          by_cases hj : j ≤ v.1.toNat
          · have HA := Lib.hid (add_nat _ f _ j _ hset2 hj1 (by omega))
            go_wp2_with (go_at_call 32; (with_reducible refine HA.out.mono ?_); rintro e w' ⟨⟨v', rfl⟩, hs3, hg3⟩)
            go_roundw
            case rel => exact ⟨j + 1, by go_num, by omega, .inl (by omega), hs3, hb2.grown hg3 hb2.size (fun i e => by cases e; omega), hR2.kept hg3 (by simp)⟩
            case measure => simp [intOf]; omega
          · have HE := Lib.hid (addR_end f t.1 v.1 j hj1 hj2 (by omega))
            go_wp2
            go_roundw
            case rel => exact ⟨k + a + 1 + b, q, _, by go_num, HN.out, HL.out _ HE.out, hset2, hb2, hR2⟩
            case measure => simp [intOf]; omega
      · have HN := Lib.hid hn
        have hne : ∀ v q, r ≠ (45, false) :: v :: q := fun v q e => hA ⟨v, q, e⟩
        have HL := Lib.hid (fun (g : UInt8 → Bool) (hg : ∀ x, g x = (f x || inR t.1 t.1 x)) => Lft.next hl (mem_single t r hne) hg)
        have h45 : k + a + 1 < s.size → ∃ h : k + a < s.size, (((s[k + a].toNat : Int) == 45) : Bool) = false := fun h => by
          refine ⟨by omega, u8_false _ 45 fun e => ?_⟩
          rcases tok_at s (k + a) (by omega) with ⟨h2, h9, e1⟩ | ⟨h9, e1⟩
          · rw [h9] at e; cases e
          · rw [hn.2] at e1
            rw [e] at e1
            rcases tok_at s (k + a + 1) h with ⟨h2, h9, e3⟩ | ⟨h9, e3⟩
            · rw [e3] at e1; exact hne _ _ e1
            · rw [e3] at e1; exact hne _ _ e1
        clear hn hA hne hl hs'
        by_cases h1 : k + a + 1 < s.size
        · obtain ⟨h2, g⟩ := h45 h1
          clear h45
          have hlo := t.1.toNat_lt
          go_wp2_with (go_at_call 25; (with_reducible refine (HC.out _).mono ?_); rintro e w' ⟨rfl, rfl⟩)
          obtain ⟨wo, rfl⟩ : ∃ wo : World, wo = wr := ⟨_, rfl⟩
          go_loopw [8] (fun b w2 => ∃ j : Nat, b = .int .i64 j ∧ t.1.toNat ≤ j ∧ (j ≤ t.1.toNat + 1 ∨ j = t.1.toNat) ∧ SetAt w2 (w.heap.size + 1) (addR f t.1.toNat j) ∧ Below w.heap.size w w2 ∧ Blk w2 w.heap.size 37 #[.int .u64 0, .int .u64 0, .int .u64 0, .int .u64 0]) (fun b _ => 256 - (intOf b).toNat)
          case atStart => exact ⟨t.1.toNat, rfl, Nat.le_refl _, .inr rfl, by rw [addR_start]; exact hset, hb, hR⟩
          case round =>
            clear hset hb hR
            obtain ⟨j, rfl, hj1, hj2, hset2, hb2, hR2⟩ := hrel
            by_cases hj : j ≤ t.1.toNat
            · have HA := Lib.hid (add_nat _ f _ j _ hset2 hj1 (by omega))
              go_wp2_with (go_at_call 32; (with_reducible refine HA.out.mono ?_); rintro e w' ⟨⟨v', rfl⟩, hs3, hg3⟩)
              go_roundw
              case rel => exact ⟨j + 1, by go_num, by omega, .inl (by omega), hs3, hb2.grown hg3 hb2.size (fun i e => by cases e; omega), hR2.kept hg3 (by simp)⟩
              case measure => simp [intOf]; omega
            · have HE := Lib.hid (addR_end f t.1 t.1 j hj1 hj2 (by omega))
              go_wp2
              go_roundw
              case rel => exact ⟨k + a, r, _, by go_num, HN.out, HL.out _ HE.out, hset2, hb2, hR2⟩
              case measure => simp [intOf]; omega
        · clear h45
          have h1' : (s.size : Int) ≤ k + a + 1 := by omega
          clear h1
          have hlo := t.1.toNat_lt
          go_wp2_with (go_at_call 25; (with_reducible refine (HC.out _).mono ?_); rintro e w' ⟨rfl, rfl⟩)
          obtain ⟨wo, rfl⟩ : ∃ wo : World, wo = wr := ⟨_, rfl⟩
          go_loopw [8] (fun b w2 => ∃ j : Nat, b = .int .i64 j ∧ t.1.toNat ≤ j ∧ (j ≤ t.1.toNat + 1 ∨ j = t.1.toNat) ∧ SetAt w2 (w.heap.size + 1) (addR f t.1.toNat j) ∧ Below w.heap.size w w2 ∧ Blk w2 w.heap.size 37 #[.int .u64 0, .int .u64 0, .int .u64 0, .int .u64 0]) (fun b _ => 256 - (intOf b).toNat)
          case atStart => exact ⟨t.1.toNat, rfl, Nat.le_refl _, .inr rfl, by rw [addR_start]; exact hset, hb, hR⟩
          case round =>
            clear hset hb hR
            obtain ⟨j, rfl, hj1, hj2, hset2, hb2, hR2⟩ := hrel
            by_cases hj : j ≤ t.1.toNat
            · have HA := Lib.hid (add_nat _ f _ j _ hset2 hj1 (by omega))
              go_wp2_with (go_at_call 32; (with_reducible refine HA.out.mono ?_); rintro e w' ⟨⟨v', rfl⟩, hs3, hg3⟩)
              go_roundw
              case rel => exact ⟨j + 1, by go_num, by omega, .inl (by omega), hs3, hb2.grown hg3 hb2.size (fun i e => by cases e; omega), hR2.kept hg3 (by simp)⟩
              case measure => simp [intOf]; omega
            · have HE := Lib.hid (addR_end f t.1 t.1 j hj1 hj2 (by omega))
              go_wp2
              go_roundw
              case rel => exact ⟨k + a, r, _, by go_num, HN.out, HL.out _ HE.out, hset2, hb2, hR2⟩
              case measure => simp [intOf]; omega
end Go.Proofs.Ytacohhmhggljhaa
