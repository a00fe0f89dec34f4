/- Contract of the document's set. -/
import Derived.Test.YtacohhmhggljhaaJB
import Derived.Test.YtacohhmhggljhaaHF
namespace Go.Proofs.Ytacohhmhggljhaa
open Go.RowKit
set_option linter.unusedVariables false
set_option linter.unusedSimpArgs false
/-- some of a range, laid in: up to a byte. -/
def addC (f : UInt8 → Bool) (lo hi : UInt8) (j : Nat) : UInt8 → Bool := fun x => f x || (inR lo hi x && decide (x.toNat < j))
theorem addC_start (f : UInt8 → Bool) (lo hi : UInt8) : addC f lo hi 0 = f := by funext x; unfold addC; simp
theorem addC_end (f : UInt8 → Bool) (lo hi : UInt8) (x : UInt8) : addC f lo hi 256 x = (f x || inR lo hi x) := by
  unfold addC
  have := x.toNat_lt
  rw [decide_eq_true (by omega), Bool.and_true]
theorem addC_in (f : UInt8 → Bool) (lo hi : UInt8) (j : Nat) (hj : j < 256) (h1 : lo.toNat ≤ j) (h2 : j ≤ hi.toNat) : insF (addC f lo hi j) (UInt8.ofNat j) = addC f lo hi (j + 1) := by
  funext x
  unfold insF addC inR
  rw [Bool.or_assoc]
  congr 1
  have h := ofNat_nat hj
  rw [Bool.eq_iff_iff]
  simp only [Bool.or_eq_true, Bool.and_eq_true, decide_eq_true_eq, beq_iff_eq]
  constructor
  · rintro (h3 | rfl) <;> omega
  · intro h3
    by_cases h4 : x.toNat < j
    · exact .inl ⟨h3.1, h4⟩
    · exact .inr (UInt8.toNat_inj.1 (by omega))
theorem addC_out (f : UInt8 → Bool) (lo hi : UInt8) (j : Nat) (h1 : ¬ (lo.toNat ≤ j ∧ j ≤ hi.toNat)) : addC f lo hi (j + 1) = addC f lo hi j := by
  funext x
  unfold addC inR
  congr 1
  rw [Bool.eq_iff_iff]
  simp only [Bool.and_eq_true, decide_eq_true_eq]
  constructor
  · rintro ⟨h3, h4⟩
    exact ⟨h3, by omega⟩
  · rintro ⟨h3, h4⟩
    exact ⟨h3, by omega⟩
def RAt (W : World) (G : Nat) (n : Bool) (f : UInt8 → Bool) : Prop := Blk W G 48 (pC 91 0 n f)
theorem RAt.cell {W : World} {G : Nat} {n : Bool} {f : UInt8 → Bool} (h : RAt W G n f) (j : Nat) (hj : j < 256) : W.cell? ⟨G, 3 + j, none⟩ = some (.bool (f (UInt8.ofNat j))) := (Blk.cell h _).trans (pC_at _ _ _ _ j hj)
theorem RAt.put {W : World} {G : Nat} {n : Bool} {f : UInt8 → Bool} {lo hi : UInt8} {j : Nat} (h : RAt W G n (addC f lo hi j)) (hj : j < 256) (h1 : lo.toNat ≤ j) (h2 : j ≤ hi.toNat) : RAt (W.setCell ⟨G, 3 + j, none⟩ (.bool true)) G n (addC f lo hi (j + 1)) := by
  have := Blk.set h (3 + j) (.bool true)
  rw [pC_set _ _ _ _ _ hj, addC_in f lo hi j hj h1 h2] at this
  exact this
/-- the answer's block, as it began. -/
def R0 (W : World) (G : Nat) : Prop := Blk W G 48 (pC 0 0 false noneF)
/-- what the scan has still to read: members and what stands behind them. -/
def Still (k1 k : Nat) (L m : List Tok) : Prop := (k = k1 ∧ m = L) ∨ (k1 < k ∧ (93, false) ∉ m ∧ ∃ d, L.tail = d ++ m)
theorem Still.next {k1 k n : Nat} {L q d : List Tok} {t : Tok} (h : Still k1 k L (t :: (d ++ q))) (hL : (93, false) ∉ L.tail) (hn : 0 < n) : Still k1 (k + n) L q := by
  rcases h with ⟨rfl, e⟩ | ⟨h1, h2, d0, e⟩
  · rw [← e, List.tail_cons] at hL
    exact .inr ⟨by omega, fun hm => hL (List.mem_append_right _ hm), d, by rw [← e]; rfl⟩
  · rw [e] at hL
    exact .inr ⟨by omega, fun hm => h2 (List.mem_cons_of_mem _ (List.mem_append_right _ hm)), d0 ++ t :: d, by rw [e]; simp⟩
/-- behind a member: is there a range? -/
theorem range_yes {s : ByteArray} {n : Nat} {v : Tok} {q z : List Tok} (h : At s n ((45, false) :: v :: q ++ z)) (hv : v ≠ (93, false)) :
    ∃ (h1 : n < s.size) (h2 : n + 1 < s.size), (((s[n].toNat : Int) == 45) : Bool) = true ∧ (((s[n + 1].toNat : Int) != 93) : Bool) = true ∧ At s (n + 1) (v :: (q ++ z)) := by
  have h1 := At.lt h
  have hn : At s (n + 1) (v :: (q ++ z)) := h.next
  have h2 := hn.lt
  refine ⟨h1, h2, ?_, u8_ne _ 93 (fun e => hv ((hn.close h2).1 e)), hn⟩
  rcases tok_at s n h1 with ⟨h3, h9, e⟩ | ⟨h9, e⟩ <;> rw [h.2] at e <;> injection e with e1 e2
  · exact Bool.noConfusion (congrArg Prod.snd e1)
  · exact u8_true _ 45 (congrArg Prod.fst e1).symm
theorem range_no {s : ByteArray} {n : Nat} {r z : List Tok} (h : At s n (r ++ z)) (hz : z = [] ∨ ∃ b, z = (93, false) :: b) (hr : ∀ v q, r ≠ (45, false) :: v :: q) :
    s.size ≤ n + 1 ∨ (∃ (h1 : n < s.size) (h2 : n + 1 < s.size), ((((s[n].toNat : Int) == 45) : Bool) = false ∨ ((((s[n].toNat : Int) == 45) : Bool) = true ∧ (((s[n + 1].toNat : Int) != 93) : Bool) = false))) := by
  by_cases h2 : n + 1 < s.size
  · refine .inr ⟨by omega, h2, ?_⟩
    have h1 : n < s.size := by omega
    by_cases h45 : s[n] = 45
    · refine .inr ⟨u8_true _ 45 h45, u8_nn _ 93 ?_⟩
      rcases tok_at s n h1 with ⟨h3, h9, e⟩ | ⟨h9, e⟩
      · rw [h9] at h45; cases h45
      · rw [h.2, h45] at e
        cases r with
        | nil =>
          rcases hz with rfl | ⟨b, rfl⟩
          · cases e
          · cases e
        | cons t r =>
          injection e with e1 e2
          have hn : At s (n + 1) (r ++ z) := by
            have := h
            rw [e1] at this
            exact this.next
          cases r with
          | cons v q => exact absurd (by rw [e1]) (hr v q)
          | nil =>
            rcases hz with rfl | ⟨b, rfl⟩
            · have := hn.end; omega
            · exact (hn.close h2).2 rfl
    · exact .inl (u8_false _ 45 h45)
  · exact .inl (by omega)
theorem rneg (s : ByteArray) (k : Nat) (r : List Tok) (h : At s k r) : (negT r = true ∧ ∃ h1 : k < s.size, (((s[k].toNat : Int) == 33) : Bool) = true) ∨ (negT r = false ∧ (s.size ≤ k ∨ ∃ h1 : k < s.size, (((s[k].toNat : Int) == 33) : Bool) = false)) := by
  have hb := beg_not s k r h
  by_cases h1 : k < s.size
  · rw [drop_eq s k h1] at hb
    have hb' : (33 == s[k] && true) = negT r := hb
    rw [Bool.and_true] at hb'
    by_cases h33 : s[k] = 33
    · exact .inl ⟨by rw [← hb', h33]; rfl, h1, u8_true _ 33 h33⟩
    · exact .inr ⟨by rw [← hb', beq_eq_false_iff_ne]; exact fun e => h33 e.symm, .inr ⟨h1, u8_false _ 33 h33⟩⟩
  · refine .inr ⟨?_, .inl (by omega)⟩
    rw [← hb, List.drop_eq_nil_of_le (by rw [size_len]; omega)]; rfl
theorem bodyT_at {s : ByteArray} {k : Nat} {r : List Tok} (h : At s k r) : At s (k + (negT r).toNat) (bodyT (negT r) r) := by
  unfold bodyT
  cases hn : negT r
  · exact h
  · cases r with
    | nil => unfold negT at hn; simp at hn
    | cons t q =>
      unfold negT at hn
      have : t = (33, false) := by simpa using hn
      rw [this] at h
      exact h.next
/-- what the document's scan answers. -/
def SetAns (s : ByteArray) (L z : List Tok) (k1 : Nat) (n : Bool) (v : Value) : Prop :=
  (z = [] ∧ v = .tuple #[.agg (pC 0 0 false noneF), .int .i64 0]) ∨
  (∃ (b : List Tok) (e : Nat), z = (93, false) :: b ∧ k1 < e ∧ At s e b ∧ v = .tuple #[.agg (pC 91 0 n (mem L)), .int .i64 e])

set_option maxHeartbeats 4000000 in
set_option maxRecDepth 100000 in
theorem rset_any (s : ByteArray) (k : Nat) (r L z : List Tok) (hs : s.size ≤ 70368744177664) (hat0 : At s k r) (hbd : bodyT (negT r) r = L ++ z) (hz : z = [] ∨ ∃ b, z = (93, false) :: b) (hzL : z ≠ [] → L ≠ []) (hL : (93, false) ∉ L.tail) (w : World) :
    Calls Try.prog 29 #[.string s, .int .i64 k] w fun e w' => (∃ v, e = .returned v ∧ SetAns s L z (k + (negT r).toNat) (negT r) v) ∧ Below w.heap.size w w' := by
  have hk0 := hat0.1
  have hat1 := bodyT_at hat0
  rw [hbd] at hat1
  have hneg := rneg s k r hat0
  clear hat0 hbd
  generalize negT r = n at *
  generalize hk1 : k + n.toNat = k1 at *
  have HAT := Lib.hid hat1
  have HL := Lib.hid hL
  have HZ := Lib.hid hz
  have HZL := Lib.hid hzL
  have hk1s := hat1.1
  clear hat1 hL hz hzL
  have hw0 := Blk.new w 48 (pC 0 0 false noneF)
  have hw1 := Blk.new (w.alloc (.cells (pC 0 0 false noneF) 48)) 48 (pC 0 0 false noneF)
  have hb1 := ((Below.refl _ w).alloc (Nat.le_refl _) (.cells (pC 0 0 false noneF) 48)).alloc (by simp) (.cells (pC 0 0 false noneF) 48)
  rw [World.size_alloc] at hw1
  have hw0' := hw0.alloc (.cells (pC 0 0 false noneF) 48)
  have HW1 := Lib.hid hw1
  have HW0 := Lib.hid hw0'
  have HB1 := Lib.hid hb1
  clear hw0 hw0' hw1 hb1
  go_enter Try.func29, Try.ntmps29
  go_upto_region 2 with (first
    | (refine wpList_storeAgg rfl 48 _ _ rfl rfl (w.heap.size + 1) 48 _ (pC 91 0 false noneF) (by first | rfl | exact congrArg (fun n => Value.pointer (some ⟨n, 0, none⟩)) (World.size_alloc _ _)) rfl HW1.out (by simp only [pC_size]) (aggR _ _ _ _) (pC_ones _ _ _ _) ?_; intro w3 hX hg3 hz3; skip)
    | (refine wpList_allocAgg rfl 48 rfl _ zeroR ?_)
    | (refine wpList_buildTo rfl 48 _ rfl _ rfl (pC 91 0 false noneF) (by kernel_rfl) ?_))
  have hc2 := Blk.cell hX 2
  have hf2 := Blk.frozen hX 2
  have HX := Lib.hid hX
  have hb3 : Below w.heap.size w w3 := HB1.out.grown hg3 (by simp; omega) (fun i e => by cases e; omega)
  have hR3 : R0 w3 w.heap.size := Blk.kept HW0.out hg3 (by simp)
  have HB := Lib.hid hb3
  have HR := Lib.hid hR3
  clear hX hg3 HW0 HW1 HB1 hb3 hR3
  have e2 : (pC 91 0 false noneF)[2]? = some (.bool false) := rfl
  rw [e2] at hc2
  clear e2
  go_simp
  go_cut [22] from 13 to 22 (fun d wx => d = .bool n ∧ wx = w3)
  case first =>
    clear HAT HL HZ HZL HX HB HR
    rcases hneg with ⟨rfl, h1, g⟩ | ⟨rfl, hge | ⟨h1, g⟩⟩
    · go_wp2
      go_meet
      exact ⟨rfl, rfl⟩
    · go_wp2
      go_meet
      exact ⟨rfl, rfl⟩
    · go_wp2
      go_meet
      exact ⟨rfl, rfl⟩
  obtain ⟨rfl, rfl⟩ := hcut
  clear hneg
  go_upto_if 22 with fail
  go_cut [1] from 23 to 25 (fun iv wx => iv = .int .i64 k1 ∧ RAt wx (w.heap.size + 1) n noneF ∧ Below w.heap.size w wx ∧ R0 wx w.heap.size)
  case first =>
    clear HAT HL HZ HZL
    cases n
    · obtain rfl : k = k1 := hk1
      go_wp2
      go_meet
      exact ⟨rfl, HX.out, HB.out, HR.out⟩
    · obtain rfl : k + 1 = k1 := hk1
      go_wp2
      go_meet
      exact ⟨by go_num, by have := Blk.set HX.out 2 (.bool true); rw [pC_neg] at this; exact this, HB.out.grown (grownBy_setAt _ _ _ _) HB.out.size (fun i e => by cases e; omega), Blk.other HR.out _ _ _ (by omega)⟩
  obtain ⟨rfl, hX, hB, hR0⟩ := hcut
  have HX2 := Lib.hid hX
  have HB2 := Lib.hid hB
  have HR2 := Lib.hid hR0
  clear hc2 hf2 HX HB HR hX hB hR0 hk1 hk0 hz3
  go_wp2_with fail
  go_loopw [1, 8, 9, 10, 11] (fun iv a b c d wr => ∃ (k' : Nat) (m : List Tok) (f : UInt8 → Bool), iv = .int .i64 k' ∧ At s k' (m ++ z) ∧ Lft L m f ∧ Still k1 k' L m ∧ RAt wr (w.heap.size + 1) n f ∧ Below w.heap.size w wr ∧ R0 wr w.heap.size) (fun iv _ _ _ _ _ => s.size - (intOf iv).toNat)
  case atStart => exact ⟨k1, L, noneF, rfl, HAT.out, Lft.start _, .inl ⟨rfl, rfl⟩, HX2.out, HB2.out, HR2.out⟩
  case round =>
    clear HX2 HB2 HR2 HAT
    obtain ⟨k', m, f, rfl, hat, hl, hst, hset, hb, hR⟩ := hrel
    cases m with
    | nil =>
      have HF := Lib.hid hl.done
      rcases HZ.out with rfl | ⟨b, rfl⟩
      · have he := hat.end
        subst he
        have HRR := Lib.hid hR
        have HBB := Lib.hid hb
        clear hat hl hst hset hb hR
        go_wp2_with (first
          | (refine wpList_storeAgg rfl 48 _ _ rfl rfl w.heap.size 48 _ (pC 0 0 false noneF) rfl rfl HRR.out (by simp only [pC_size]) (aggR _ _ _ _) (pC_ones _ _ _ _) ?_; intro w4 hY hg4 hz4; skip)
          | (refine wpList_buildTo rfl 48 _ rfl _ rfl (pC 0 0 false noneF) (by kernel_rfl) ?_))
        have HY := Lib.hid hY
        have HB4 := Lib.hid (HBB.out.grown hg4 HBB.out.size (fun i e => by cases e; omega))
        clear hY hg4 hz4
        go_wp2
        exact bodyPost_ret (resAgg _ 4 5 48 rfl HY.out (aggR _ _ _ _) _ rfl rfl) rfl ⟨⟨_, rfl, .inl ⟨rfl, rfl⟩⟩, HB4.out⟩
      · have hlt := hat.lt
        have hn := hat.next
        have hlt1 : k1 < k' := by
          rcases hst with ⟨_, e⟩ | ⟨h, _⟩
          · exact absurd e.symm (HZL.out (by simp))
          · exact h
        have HN := Lib.hid (show At s (k' + 1) b from hn)
        have g : (((s[k'].toNat : Int) == 93) : Bool) = true := u8_true _ 93 ((hat.close hlt).2 rfl)
        have HRR := Lib.hid hR
        have HBB := Lib.hid hb
        have HSS := Lib.hid hset
        clear hat hn hl hst hset hb hR
        go_wp2_with (first
          | (refine wpList_storeAgg rfl 48 _ _ rfl rfl w.heap.size 48 _ (pC 91 0 n f) rfl rfl HRR.out (by simp only [pC_size]) (aggR _ _ _ _) (pC_ones _ _ _ _) ?_; intro w4 hY hg4 hz4; skip)
          | (refine wpList_loadAgg rfl 48 _ rfl (w.heap.size + 1) 0 (pC 91 0 n f) rfl (fun j hj => by rw [Nat.zero_add]; exact Blk.cell HSS.out j) (aggR _ _ _ _) ?_))
        have HY := Lib.hid hY
        have HB4 := Lib.hid (HBB.out.grown hg4 HBB.out.size (fun i e => by cases e; omega))
        clear hY hg4 hz4
        go_wp2
        exact bodyPost_ret (resAgg _ 4 5 48 rfl HY.out (aggR _ _ _ _) _ rfl rfl) rfl ⟨⟨_, rfl, .inr ⟨b, k' + 1, rfl, by omega, HN.out, by rw [← HF.out]; go_num⟩⟩, HB4.out⟩
    | cons t r =>

      have hlt := hat.lt
      have htl := tl_pos t
      have hn : At s (k' + tl t) (r ++ z) := hat.next
      have hle := hn.1
      have hLL := HL.out
      have hz' := HZ.out
      have HC := Lib.hid (fun w => rmember_any s k' t (r ++ z) hat hs w)
      have HNX := Lib.hid (fun (d q : List Tok) (c : Nat) (e : r = d ++ q) (hc : 0 < c) => Still.next (q := q) (d := d) (t := t) (by rw [← e]; exact hst) hLL hc)
      have hX : (((((s[k'].toNat : Int) == 93) : Bool) = true ∧ k' ≤ k1) ∨ (((s[k'].toNat : Int) == 93) : Bool) = false) := by
        by_cases h93 : s[k'] = 93
        · refine .inl ⟨u8_true _ 93 h93, ?_⟩
          rcases hst with ⟨e, _⟩ | ⟨_, hm, _⟩
          · omega
          · exact absurd (by rw [(hat.close hlt).1 h93]; exact List.mem_cons_self ..) hm
        · exact .inr (u8_false _ 93 h93)
      have hv93 : ∀ v, v ∈ r → v ≠ (93, false) := by
        intro v hv e
        rcases hst with ⟨_, e2⟩ | ⟨_, hm, _⟩
        · rw [← e2] at hLL; exact hLL (e ▸ hv)
        · exact hm (List.mem_cons_of_mem _ (e ▸ hv))
      have hlo := t.1.toNat_lt
      clear hat hst hLL
      have hst1 : k1 ≤ s.size := hk1s
      by_cases hA : ∃ v q, r = (45, false) :: v :: q
      · obtain ⟨v, q, rfl⟩ := hA
        obtain ⟨hn1, hn2, g45, g93, hnv⟩ := range_yes hn (hv93 v (by simp))
        have htl2 := tl_pos v
        have hn3 := hnv.next
        have hle3 := hn3.1
        have HC2 := Lib.hid (fun w => (by have := rmember_any s _ v (q ++ z) hnv hs w; simp only [Int.natCast_add, Int.cast_ofNat_Int] at this; exact this : Calls Try.prog 33 #[.string s, .int .i64 ((k' : Int) + tl t + 1)] w fun e w' => e = .returned (.tuple #[.int .u8 v.1.toNat, .int .i64 ((k' : Int) + tl t + 1 + tl v)]) ∧ w = w'))
        have HL2 := Lib.hid (fun (g : UInt8 → Bool) (hg : ∀ x, g x = (f x || inR t.1 v.1 x)) => Lft.next hl (mem_range t v q) hg)
        have HN := Lib.hid hn3
        have HST := Lib.hid (HNX.out [(45, false), v] q (tl t + 1 + tl v) rfl (by omega))
        have hhi := v.1.toNat_lt
        clear hn hnv hn3 hl hv93 hz' HNX
        generalize tl t = a at *
        generalize tl v = c at *
        rcases hX with ⟨gX, hX1⟩ | gX
        · skip
          go_wp2_with (first | (go_at_call 33; (with_reducible refine (HC2.out _).mono ?_); rintro e w' ⟨rfl, rfl⟩) | (go_at_call 33; (with_reducible refine (HC.out _).mono ?_); rintro e w' ⟨rfl, rfl⟩))
          obtain ⟨wo, rfl⟩ : ∃ wo : World, wo = wr := ⟨_, rfl⟩
          go_loopw [11] (fun c w2 => ∃ j : Nat, c = .int .i64 j ∧ j ≤ 256 ∧ RAt w2 (w.heap.size + 1) n (addC f t.1 v.1 j) ∧ Below w.heap.size w w2 ∧ R0 w2 w.heap.size) (fun c _ => 256 - (intOf c).toNat)
          case atStart => exact ⟨0, rfl, by omega, by rw [addC_start]; exact hset, hb, hR⟩
          case round =>
            clear hset hb hR
            obtain ⟨j, rfl, hj, hset2, hb2, hR2⟩ := hrel
            by_cases h256 : j < 256
            · have HS := Lib.hid hset2
              have hc := hset2.cell j h256
              have hf := Blk.frozen hset2 (3 + j)
              clear hset2
              by_cases hlo : t.1.toNat ≤ j
              · by_cases hhi : j ≤ v.1.toNat
                · go_wp2
                  go_roundw
                  case rel => exact ⟨j + 1, by go_num, by omega, HS.out.put h256 hlo hhi, hb2.grown (grownBy_setAt _ _ _ _) hb2.size (fun i e => by cases e; omega), Blk.other hR2 _ _ _ (by omega)⟩
                  case measure => simp [intOf]; omega
                · have hhi' : v.1.toNat < j := by omega
                  clear hhi
                  go_wp2
                  go_roundw
                  case rel => exact ⟨j + 1, by go_num, by omega, by rw [addC_out f t.1 v.1 j (by omega)]; exact HS.out, hb2, hR2⟩
                  case measure => simp [intOf]; omega
              · have hlo' : j < t.1.toNat := by omega
                clear hlo
                go_wp2
                go_roundw
                case rel => exact ⟨j + 1, by go_num, by omega, by rw [addC_out f t.1 v.1 j (by omega)]; exact HS.out, hb2, hR2⟩
                case measure => simp [intOf]; omega
            · obtain rfl : j = 256 := by omega
              have HS := Lib.hid hset2
              clear hset2
              go_wp2
              go_roundw
              case rel => exact ⟨k' + a + 1 + c, q, _, by go_num, HN.out, HL2.out _ (addC_end f t.1 v.1), by have := HST.out; rw [← Nat.add_assoc, ← Nat.add_assoc] at this; exact this, HS.out, hb2, hR2⟩
              case measure => simp [intOf]; omega
        · skip
          go_wp2_with (first | (go_at_call 33; (with_reducible refine (HC2.out _).mono ?_); rintro e w' ⟨rfl, rfl⟩) | (go_at_call 33; (with_reducible refine (HC.out _).mono ?_); rintro e w' ⟨rfl, rfl⟩))
          obtain ⟨wo, rfl⟩ : ∃ wo : World, wo = wr := ⟨_, rfl⟩
          go_loopw [11] (fun c w2 => ∃ j : Nat, c = .int .i64 j ∧ j ≤ 256 ∧ RAt w2 (w.heap.size + 1) n (addC f t.1 v.1 j) ∧ Below w.heap.size w w2 ∧ R0 w2 w.heap.size) (fun c _ => 256 - (intOf c).toNat)
          case atStart => exact ⟨0, rfl, by omega, by rw [addC_start]; exact hset, hb, hR⟩
          case round =>
            clear hset hb hR
            obtain ⟨j, rfl, hj, hset2, hb2, hR2⟩ := hrel
            by_cases h256 : j < 256
            · have HS := Lib.hid hset2
              have hc := hset2.cell j h256
              have hf := Blk.frozen hset2 (3 + j)
              clear hset2
              by_cases hlo : t.1.toNat ≤ j
              · by_cases hhi : j ≤ v.1.toNat
                · go_wp2
                  go_roundw
                  case rel => exact ⟨j + 1, by go_num, by omega, HS.out.put h256 hlo hhi, hb2.grown (grownBy_setAt _ _ _ _) hb2.size (fun i e => by cases e; omega), Blk.other hR2 _ _ _ (by omega)⟩
                  case measure => simp [intOf]; omega
                · have hhi' : v.1.toNat < j := by omega
                  clear hhi
                  go_wp2
                  go_roundw
                  case rel => exact ⟨j + 1, by go_num, by omega, by rw [addC_out f t.1 v.1 j (by omega)]; exact HS.out, hb2, hR2⟩
                  case measure => simp [intOf]; omega
              · have hlo' : j < t.1.toNat := by omega
                clear hlo
                go_wp2
                go_roundw
                case rel => exact ⟨j + 1, by go_num, by omega, by rw [addC_out f t.1 v.1 j (by omega)]; exact HS.out, hb2, hR2⟩
                case measure => simp [intOf]; omega
            · obtain rfl : j = 256 := by omega
              have HS := Lib.hid hset2
              clear hset2
              go_wp2
              go_roundw
              case rel => exact ⟨k' + a + 1 + c, q, _, by go_num, HN.out, HL2.out _ (addC_end f t.1 v.1), by have := HST.out; rw [← Nat.add_assoc, ← Nat.add_assoc] at this; exact this, HS.out, hb2, hR2⟩
              case measure => simp [intOf]; omega
      · have hne : ∀ v q, r ≠ (45, false) :: v :: q := fun v q e => hA ⟨v, q, e⟩
        have hno := range_no hn hz' hne
        have HL2 := Lib.hid (fun (g : UInt8 → Bool) (hg : ∀ x, g x = (f x || inR t.1 t.1 x)) => Lft.next hl (mem_single t r hne) hg)
        have HN := Lib.hid hn
        have HST := Lib.hid (HNX.out [] r (tl t) rfl (by omega))
        clear hn hl hv93 hz' HNX hA hne
        generalize tl t = a at *
        rcases hX with ⟨gX, hX1⟩ | gX
        · rcases hno with h1 | ⟨hn1, hn2, g45 | ⟨g45, g93⟩⟩
          · skip
            have h1' : (s.size : Int) ≤ k' + a + 1 := by omega
            clear h1
            go_wp2_with (go_at_call 33; (with_reducible refine (HC.out _).mono ?_); rintro e w' ⟨rfl, rfl⟩)
            obtain ⟨wo, rfl⟩ : ∃ wo : World, wo = wr := ⟨_, rfl⟩
            go_loopw [11] (fun c w2 => ∃ j : Nat, c = .int .i64 j ∧ j ≤ 256 ∧ RAt w2 (w.heap.size + 1) n (addC f t.1 t.1 j) ∧ Below w.heap.size w w2 ∧ R0 w2 w.heap.size) (fun c _ => 256 - (intOf c).toNat)
            case atStart => exact ⟨0, rfl, by omega, by rw [addC_start]; exact hset, hb, hR⟩
            case round =>
              clear hset hb hR
              obtain ⟨j, rfl, hj, hset2, hb2, hR2⟩ := hrel
              by_cases h256 : j < 256
              · have HS := Lib.hid hset2
                have hc := hset2.cell j h256
                have hf := Blk.frozen hset2 (3 + j)
                clear hset2
                by_cases hlo : t.1.toNat ≤ j
                · by_cases hhi : j ≤ t.1.toNat
                  · go_wp2
                    go_roundw
                    case rel => exact ⟨j + 1, by go_num, by omega, HS.out.put h256 hlo hhi, hb2.grown (grownBy_setAt _ _ _ _) hb2.size (fun i e => by cases e; omega), Blk.other hR2 _ _ _ (by omega)⟩
                    case measure => simp [intOf]; omega
                  · have hhi' : t.1.toNat < j := by omega
                    clear hhi
                    go_wp2
                    go_roundw
                    case rel => exact ⟨j + 1, by go_num, by omega, by rw [addC_out f t.1 t.1 j (by omega)]; exact HS.out, hb2, hR2⟩
                    case measure => simp [intOf]; omega
                · have hlo' : j < t.1.toNat := by omega
                  clear hlo
                  go_wp2
                  go_roundw
                  case rel => exact ⟨j + 1, by go_num, by omega, by rw [addC_out f t.1 t.1 j (by omega)]; exact HS.out, hb2, hR2⟩
                  case measure => simp [intOf]; omega
              · obtain rfl : j = 256 := by omega
                have HS := Lib.hid hset2
                clear hset2
                go_wp2
                go_roundw
                case rel => exact ⟨k' + a, r, _, by go_num, HN.out, HL2.out _ (addC_end f t.1 t.1), HST.out, HS.out, hb2, hR2⟩
                case measure => simp [intOf]; omega
          · skip
            go_wp2_with (go_at_call 33; (with_reducible refine (HC.out _).mono ?_); rintro e w' ⟨rfl, rfl⟩)
            obtain ⟨wo, rfl⟩ : ∃ wo : World, wo = wr := ⟨_, rfl⟩
            go_loopw [11] (fun c w2 => ∃ j : Nat, c = .int .i64 j ∧ j ≤ 256 ∧ RAt w2 (w.heap.size + 1) n (addC f t.1 t.1 j) ∧ Below w.heap.size w w2 ∧ R0 w2 w.heap.size) (fun c _ => 256 - (intOf c).toNat)
            case atStart => exact ⟨0, rfl, by omega, by rw [addC_start]; exact hset, hb, hR⟩
            case round =>
              clear hset hb hR
              obtain ⟨j, rfl, hj, hset2, hb2, hR2⟩ := hrel
              by_cases h256 : j < 256
              · have HS := Lib.hid hset2
                have hc := hset2.cell j h256
                have hf := Blk.frozen hset2 (3 + j)
                clear hset2
                by_cases hlo : t.1.toNat ≤ j
                · by_cases hhi : j ≤ t.1.toNat
                  · go_wp2
                    go_roundw
                    case rel => exact ⟨j + 1, by go_num, by omega, HS.out.put h256 hlo hhi, hb2.grown (grownBy_setAt _ _ _ _) hb2.size (fun i e => by cases e; omega), Blk.other hR2 _ _ _ (by omega)⟩
                    case measure => simp [intOf]; omega
                  · have hhi' : t.1.toNat < j := by omega
                    clear hhi
                    go_wp2
                    go_roundw
                    case rel => exact ⟨j + 1, by go_num, by omega, by rw [addC_out f t.1 t.1 j (by omega)]; exact HS.out, hb2, hR2⟩
                    case measure => simp [intOf]; omega
                · have hlo' : j < t.1.toNat := by omega
                  clear hlo
                  go_wp2
                  go_roundw
                  case rel => exact ⟨j + 1, by go_num, by omega, by rw [addC_out f t.1 t.1 j (by omega)]; exact HS.out, hb2, hR2⟩
                  case measure => simp [intOf]; omega
              · obtain rfl : j = 256 := by omega
                have HS := Lib.hid hset2
                clear hset2
                go_wp2
                go_roundw
                case rel => exact ⟨k' + a, r, _, by go_num, HN.out, HL2.out _ (addC_end f t.1 t.1), HST.out, HS.out, hb2, hR2⟩
                case measure => simp [intOf]; omega
          · skip
            go_wp2_with (go_at_call 33; (with_reducible refine (HC.out _).mono ?_); rintro e w' ⟨rfl, rfl⟩)
            obtain ⟨wo, rfl⟩ : ∃ wo : World, wo = wr := ⟨_, rfl⟩
            go_loopw [11] (fun c w2 => ∃ j : Nat, c = .int .i64 j ∧ j ≤ 256 ∧ RAt w2 (w.heap.size + 1) n (addC f t.1 t.1 j) ∧ Below w.heap.size w w2 ∧ R0 w2 w.heap.size) (fun c _ => 256 - (intOf c).toNat)
            case atStart => exact ⟨0, rfl, by omega, by rw [addC_start]; exact hset, hb, hR⟩
            case round =>
              clear hset hb hR
              obtain ⟨j, rfl, hj, hset2, hb2, hR2⟩ := hrel
              by_cases h256 : j < 256
              · have HS := Lib.hid hset2
                have hc := hset2.cell j h256
                have hf := Blk.frozen hset2 (3 + j)
                clear hset2
                by_cases hlo : t.1.toNat ≤ j
                · by_cases hhi : j ≤ t.1.toNat
                  · go_wp2
                    go_roundw
                    case rel => exact ⟨j + 1, by go_num, by omega, HS.out.put h256 hlo hhi, hb2.grown (grownBy_setAt _ _ _ _) hb2.size (fun i e => by cases e; omega), Blk.other hR2 _ _ _ (by omega)⟩
                    case measure => simp [intOf]; omega
                  · have hhi' : t.1.toNat < j := by omega
                    clear hhi
                    go_wp2
                    go_roundw
                    case rel => exact ⟨j + 1, by go_num, by omega, by rw [addC_out f t.1 t.1 j (by omega)]; exact HS.out, hb2, hR2⟩
                    case measure => simp [intOf]; omega
                · have hlo' : j < t.1.toNat := by omega
                  clear hlo
                  go_wp2
                  go_roundw
                  case rel => exact ⟨j + 1, by go_num, by omega, by rw [addC_out f t.1 t.1 j (by omega)]; exact HS.out, hb2, hR2⟩
                  case measure => simp [intOf]; omega
              · obtain rfl : j = 256 := by omega
                have HS := Lib.hid hset2
                clear hset2
                go_wp2
                go_roundw
                case rel => exact ⟨k' + a, r, _, by go_num, HN.out, HL2.out _ (addC_end f t.1 t.1), HST.out, HS.out, hb2, hR2⟩
                case measure => simp [intOf]; omega
        · rcases hno with h1 | ⟨hn1, hn2, g45 | ⟨g45, g93⟩⟩
          · skip
            have h1' : (s.size : Int) ≤ k' + a + 1 := by omega
            clear h1
            go_wp2_with (go_at_call 33; (with_reducible refine (HC.out _).mono ?_); rintro e w' ⟨rfl, rfl⟩)
            obtain ⟨wo, rfl⟩ : ∃ wo : World, wo = wr := ⟨_, rfl⟩
            go_loopw [11] (fun c w2 => ∃ j : Nat, c = .int .i64 j ∧ j ≤ 256 ∧ RAt w2 (w.heap.size + 1) n (addC f t.1 t.1 j) ∧ Below w.heap.size w w2 ∧ R0 w2 w.heap.size) (fun c _ => 256 - (intOf c).toNat)
            case atStart => exact ⟨0, rfl, by omega, by rw [addC_start]; exact hset, hb, hR⟩
            case round =>
              clear hset hb hR
              obtain ⟨j, rfl, hj, hset2, hb2, hR2⟩ := hrel
              by_cases h256 : j < 256
              · have HS := Lib.hid hset2
                have hc := hset2.cell j h256
                have hf := Blk.frozen hset2 (3 + j)
                clear hset2
                by_cases hlo : t.1.toNat ≤ j
                · by_cases hhi : j ≤ t.1.toNat
                  · go_wp2
                    go_roundw
                    case rel => exact ⟨j + 1, by go_num, by omega, HS.out.put h256 hlo hhi, hb2.grown (grownBy_setAt _ _ _ _) hb2.size (fun i e => by cases e; omega), Blk.other hR2 _ _ _ (by omega)⟩
                    case measure => simp [intOf]; omega
                  · have hhi' : t.1.toNat < j := by omega
                    clear hhi
                    go_wp2
                    go_roundw
                    case rel => exact ⟨j + 1, by go_num, by omega, by rw [addC_out f t.1 t.1 j (by omega)]; exact HS.out, hb2, hR2⟩
                    case measure => simp [intOf]; omega
                · have hlo' : j < t.1.toNat := by omega
                  clear hlo
                  go_wp2
                  go_roundw
                  case rel => exact ⟨j + 1, by go_num, by omega, by rw [addC_out f t.1 t.1 j (by omega)]; exact HS.out, hb2, hR2⟩
                  case measure => simp [intOf]; omega
              · obtain rfl : j = 256 := by omega
                have HS := Lib.hid hset2
                clear hset2
                go_wp2
                go_roundw
                case rel => exact ⟨k' + a, r, _, by go_num, HN.out, HL2.out _ (addC_end f t.1 t.1), HST.out, HS.out, hb2, hR2⟩
                case measure => simp [intOf]; omega
          · skip
            go_wp2_with (go_at_call 33; (with_reducible refine (HC.out _).mono ?_); rintro e w' ⟨rfl, rfl⟩)
            obtain ⟨wo, rfl⟩ : ∃ wo : World, wo = wr := ⟨_, rfl⟩
            go_loopw [11] (fun c w2 => ∃ j : Nat, c = .int .i64 j ∧ j ≤ 256 ∧ RAt w2 (w.heap.size + 1) n (addC f t.1 t.1 j) ∧ Below w.heap.size w w2 ∧ R0 w2 w.heap.size) (fun c _ => 256 - (intOf c).toNat)
            case atStart => exact ⟨0, rfl, by omega, by rw [addC_start]; exact hset, hb, hR⟩
            case round =>
              clear hset hb hR
              obtain ⟨j, rfl, hj, hset2, hb2, hR2⟩ := hrel
              by_cases h256 : j < 256
              · have HS := Lib.hid hset2
                have hc := hset2.cell j h256
                have hf := Blk.frozen hset2 (3 + j)
                clear hset2
                by_cases hlo : t.1.toNat ≤ j
                · by_cases hhi : j ≤ t.1.toNat
                  · go_wp2
                    go_roundw
                    case rel => exact ⟨j + 1, by go_num, by omega, HS.out.put h256 hlo hhi, hb2.grown (grownBy_setAt _ _ _ _) hb2.size (fun i e => by cases e; omega), Blk.other hR2 _ _ _ (by omega)⟩
                    case measure => simp [intOf]; omega
                  · have hhi' : t.1.toNat < j := by omega
                    clear hhi
                    go_wp2
                    go_roundw
                    case rel => exact ⟨j + 1, by go_num, by omega, by rw [addC_out f t.1 t.1 j (by omega)]; exact HS.out, hb2, hR2⟩
                    case measure => simp [intOf]; omega
                · have hlo' : j < t.1.toNat := by omega
                  clear hlo
                  go_wp2
                  go_roundw
                  case rel => exact ⟨j + 1, by go_num, by omega, by rw [addC_out f t.1 t.1 j (by omega)]; exact HS.out, hb2, hR2⟩
                  case measure => simp [intOf]; omega
              · obtain rfl : j = 256 := by omega
                have HS := Lib.hid hset2
                clear hset2
                go_wp2
                go_roundw
                case rel => exact ⟨k' + a, r, _, by go_num, HN.out, HL2.out _ (addC_end f t.1 t.1), HST.out, HS.out, hb2, hR2⟩
                case measure => simp [intOf]; omega
          · skip
            go_wp2_with (go_at_call 33; (with_reducible refine (HC.out _).mono ?_); rintro e w' ⟨rfl, rfl⟩)
            obtain ⟨wo, rfl⟩ : ∃ wo : World, wo = wr := ⟨_, rfl⟩
            go_loopw [11] (fun c w2 => ∃ j : Nat, c = .int .i64 j ∧ j ≤ 256 ∧ RAt w2 (w.heap.size + 1) n (addC f t.1 t.1 j) ∧ Below w.heap.size w w2 ∧ R0 w2 w.heap.size) (fun c _ => 256 - (intOf c).toNat)
            case atStart => exact ⟨0, rfl, by omega, by rw [addC_start]; exact hset, hb, hR⟩
            case round =>
              clear hset hb hR
              obtain ⟨j, rfl, hj, hset2, hb2, hR2⟩ := hrel
              by_cases h256 : j < 256
              · have HS := Lib.hid hset2
                have hc := hset2.cell j h256
                have hf := Blk.frozen hset2 (3 + j)
                clear hset2
                by_cases hlo : t.1.toNat ≤ j
                · by_cases hhi : j ≤ t.1.toNat
                  · go_wp2
                    go_roundw
                    case rel => exact ⟨j + 1, by go_num, by omega, HS.out.put h256 hlo hhi, hb2.grown (grownBy_setAt _ _ _ _) hb2.size (fun i e => by cases e; omega), Blk.other hR2 _ _ _ (by omega)⟩
                    case measure => simp [intOf]; omega
                  · have hhi' : t.1.toNat < j := by omega
                    clear hhi
                    go_wp2
                    go_roundw
                    case rel => exact ⟨j + 1, by go_num, by omega, by rw [addC_out f t.1 t.1 j (by omega)]; exact HS.out, hb2, hR2⟩
                    case measure => simp [intOf]; omega
                · have hlo' : j < t.1.toNat := by omega
                  clear hlo
                  go_wp2
                  go_roundw
                  case rel => exact ⟨j + 1, by go_num, by omega, by rw [addC_out f t.1 t.1 j (by omega)]; exact HS.out, hb2, hR2⟩
                  case measure => simp [intOf]; omega
              · obtain rfl : j = 256 := by omega
                have HS := Lib.hid hset2
                clear hset2
                go_wp2
                go_roundw
                case rel => exact ⟨k' + a, r, _, by go_num, HN.out, HL2.out _ (addC_end f t.1 t.1), HST.out, HS.out, hb2, hR2⟩
                case measure => simp [intOf]; omega
end Go.Proofs.Ytacohhmhggljhaa
