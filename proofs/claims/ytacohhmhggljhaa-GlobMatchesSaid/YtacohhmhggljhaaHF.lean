/- Contract of the program's setAt. -/
import Derived.Test.YtacohhmhggljhaaHE
namespace Go.Proofs.Ytacohhmhggljhaa
open Go.RowKit
set_option linter.unusedVariables false
set_option linter.unusedSimpArgs false
theorem cl_none (r : List Tok) (h : (93, false) ∉ r) : cl r = none := by
  induction r with
  | nil => rfl
  | cons t r ih =>
    simp only [List.mem_cons, not_or] at h
    rw [cl, if_neg (fun e => h.1 e.symm), ih h.2]; rfl
theorem cl_some (a b : List Tok) (h : (93, false) ∉ a) : cl (a ++ (93, false) :: b) = some a.length := by
  induction a with
  | nil => rw [List.nil_append, cl, if_pos rfl]; rfl
  | cons t a ih =>
    simp only [List.mem_cons, not_or] at h
    rw [List.cons_append, cl, if_neg (fun e => h.1 e.symm), ih h.2]; rfl
theorem part_close (r : List Tok) (h : (93, false) ∈ r) : ∃ a b, r = a ++ (93, false) :: b ∧ (93, false) ∉ a := by
  induction r with
  | nil => cases h
  | cons t r ih =>
    by_cases e : t = (93, false)
    · exact ⟨[], r, by rw [e]; rfl, by simp⟩
    · rcases List.mem_cons.1 h with h1 | h1
      · exact absurd h1.symm e
      · obtain ⟨a, b, rfl, hn⟩ := ih h1
        exact ⟨t :: a, b, rfl, by simp only [List.mem_cons, not_or]; exact ⟨fun x => e x.symm, hn⟩⟩
theorem setB_none (neg : Bool) (r : List Tok) (h : (93, false) ∉ r.tail) : setB neg r = none := by
  cases r with
  | nil => rfl
  | cons t r => rw [setB, cl_none r h]; rfl
theorem setB_some (neg : Bool) (t : Tok) (a b : List Tok) (h : (93, false) ∉ a) : setB neg (t :: (a ++ (93, false) :: b)) = some (fun x => mem (t :: a) x != neg, a.length + 2) := by
  rw [setB, cl_some a b h]
  simp
/-- what stands behind the sign that turns a set round. -/
def bodyT (neg : Bool) (r : List Tok) : List Tok := if neg = true then r.tail else r
def negT (r : List Tok) : Bool := decide (r.head? = some (33, false))
theorem setT_cases (r : List Tok) : ((93, false) ∉ (bodyT (negT r) r).tail ∧ setT r = none) ∨
    ∃ t a b, bodyT (negT r) r = t :: (a ++ (93, false) :: b) ∧ (93, false) ∉ a ∧ setT r = some (fun x => mem (t :: a) x != negT r, a.length + 2 + (negT r).toNat) := by
  unfold setT negT bodyT
  by_cases hn : r.head? = some (33, false)
  · rw [if_pos hn, decide_eq_true hn, if_pos rfl]
    by_cases hc : (93, false) ∈ r.tail.tail
    · obtain ⟨a, b, e, hna⟩ := part_close _ hc
      cases hr : r.tail with
      | nil => rw [hr] at hc; cases hc
      | cons t q =>
        rw [hr] at e
        refine .inr ⟨t, a, b, by rw [← e]; rfl, hna, ?_⟩
        rw [show q = a ++ (93, false) :: b from e, setB_some _ _ _ _ hna]
        rfl
    · exact .inl ⟨hc, by rw [setB_none _ _ hc]; rfl⟩
  · rw [if_neg hn, decide_eq_false hn, if_neg (by decide)]
    by_cases hc : (93, false) ∈ r.tail
    · obtain ⟨a, b, e, hna⟩ := part_close _ hc
      cases hr : r with
      | nil => rw [hr] at hc; cases hc
      | cons t q =>
        rw [hr] at e
        refine .inr ⟨t, a, b, by rw [← e]; rfl, hna, ?_⟩
        rw [show q = a ++ (93, false) :: b from e, setB_some _ _ _ _ hna]
        rfl
    · exact .inl ⟨hc, setB_none _ _ hc⟩
theorem bne_false' (f : UInt8 → Bool) : (fun x => f x != false) = f := by funext x; cases f x <;> rfl
theorem bne_true' (f : UInt8 → Bool) : (fun x => f x != true) = notF f := by funext x; unfold notF; cases f x <;> rfl
theorem beg_not (s : ByteArray) (k : Nat) (r : List Tok) (h : At s k r) : beg (s.data.toList.drop k) [33] = negT r := by
  unfold negT
  cases r with
  | nil =>
    have := h.end
    rw [List.drop_eq_nil_of_le (by rw [size_len]; omega)]
    rfl
  | cons t r =>
    have hl := h.lt
    rw [drop_eq s k hl]
    have hb : beg (s[k] :: s.data.toList.drop (k + 1)) [33] = (s[k] == 33) := by
      show (33 == s[k] && true) = _
      rw [Bool.and_true, Bool.eq_iff_iff, beq_iff_eq, beq_iff_eq]; exact ⟨fun e => e.symm, fun e => e.symm⟩
    rw [hb, List.head?_cons]
    rcases tok_at s k hl with ⟨h2, h9, e⟩ | ⟨h9, e⟩ <;> rw [h.2] at e <;> injection e with e1 e2
    · rw [h9, e1]; simp
    · rw [e1]; simp; rfl
/-- a place at which a token begins, seen from the pattern's beginning. -/
structure Rch (s : ByteArray) (k : Nat) (ts : List Tok) : Prop where
  at_ : At s k ts
  pre : ∃ pre, toks s.data.toList = pre ++ ts ∧ k = lenT pre
theorem Rch.start (s : ByteArray) : Rch s 0 (toks s.data.toList) := ⟨⟨Nat.zero_le _, rfl⟩, [], rfl, rfl⟩
theorem Rch.next {s : ByteArray} {k : Nat} {t : Tok} {r : List Tok} (h : Rch s k (t :: r)) : Rch s (k + tl t) r := by
  obtain ⟨pre, h1, h2⟩ := h.pre
  exact ⟨h.at_.next, pre ++ [t], by rw [h1]; simp, by rw [lenT_append, h2]; rfl⟩
theorem Rch.skip {s : ByteArray} : ∀ {a : List Tok} {k : Nat} {r : List Tok}, Rch s k (a ++ r) → Rch s (k + lenT a) r
  | [], _, _, h => h
  | t :: a, k, r, h => by
    have := Rch.skip (a := a) (Rch.next h)
    rw [lenT, ← Nat.add_assoc]; exact this
theorem Rch.last {s : ByteArray} {k : Nat} {ts : List Tok} (h : Rch s k ts) : ((k : Int) < lastI (toks s.data.toList)) ↔ (93, false) ∈ ts.tail := by
  obtain ⟨pre, h1, rfl⟩ := h.pre
  cases ts with
  | nil =>
    rw [List.append_nil] at h1
    rw [← h1]
    exact ⟨fun e => absurd e (last_end _), fun e => by cases e⟩
  | cons t r => exact last_lt h1
theorem At.close {s : ByteArray} {k : Nat} {t : Tok} {r : List Tok} (h : At s k (t :: r)) (hl : k < s.size) : s[k] = 93 ↔ t = (93, false) := by
  rcases tok_at s k hl with ⟨h2, h9, e⟩ | ⟨h9, e⟩ <;> rw [h.2] at e <;> injection e with e1 e2 <;> subst e1
  · rw [h9]; simp
  · simp
/-- the bytes of some tokens are those tokens. -/
theorem At.cut {s : ByteArray} {k : Nat} {a b : List Tok} (h : At s k (a ++ b)) : toks (s.extract k (k + lenT a)).data.toList = a := by
  rw [extract_mid, Nat.add_sub_cancel_left]
  exact (toks_split a b _ h.2).2.1
def prtV (x : Prt) : Value := .agg #[.bool x.many, .bool x.special, wd x.set 0, wd x.set 1, wd x.set 2, wd x.set 3]
def noneP : Prt := ⟨false, false, noneF⟩
def PrtAt (W : World) (B : Nat) (x : Prt) : Prop := Blk W B 39 #[.bool x.many, .bool x.special, wd x.set 0, wd x.set 1, wd x.set 2, wd x.set 3]
theorem wd_none (q : Nat) : wd noneF q = .int .u64 0 := by unfold wd; rw [word_none]; rfl
theorem setAt_results (W : World) (B : Nat) (x : Prt) (h : PrtAt W B x) (n : Int) (tmps : Array Value)
    (h2 : tmps.getD 6 undef = .pointer (some ⟨B, 0, none⟩)) (h3 : tmps.getD 7 undef = .int .i64 n) :
    (results Try.f31 tmps).run Try.prog W = .ok (.tuple #[prtV x, .int .i64 n]) W := by
  have c0 := h.cell 0
  have c1 := h.cell 1
  have c2 := h.cell 2
  have c3 := h.cell 3
  have c4 := h.cell 4
  have c5 := h.cell 5
  unfold prtV
  simp only [List.getElem?_toArray, List.getElem?_cons_zero, List.getElem?_cons_succ] at c0 c1 c2 c3 c4 c5
  simp only [Array.getD_eq_getD_getElem?] at h2 h3
  simp only [results, Try.f31]
  simp [go_sem, h2, h3, c0, c1, c2, c3, c4, c5]
theorem none_at (w : World) : PrtAt (w.alloc (.cells #[.bool false, .bool false, .int .u64 0, .int .u64 0, .int .u64 0, .int .u64 0] 39)) w.heap.size noneP := by
  have := Blk.new w 39 #[.bool false, .bool false, .int .u64 0, .int .u64 0, .int .u64 0, .int .u64 0]
  unfold PrtAt noneP
  simp only [wd_none]
  exact this
theorem setAt_none (s : ByteArray) (k : Nat) (r : List Tok) (hs : s.size ≤ 70368744177664) (h : Rch s k ((91, false) :: r)) (hn : setT r = none) (w : World) :
    Calls Try.prog 31 #[.string s, .int .i64 k, .int .i64 (lastI (toks s.data.toList))] w fun e w' => e = .returned (.tuple #[prtV noneP, .int .i64 0]) ∧ Below w.heap.size w w' := by
  have hl := h.at_.lt
  have h1 := h.next
  have hle := h1.at_.1
  have hb := beg_not s _ r h1.at_
  have hlt : ¬ ((k + 1 + (negT r).toNat : Nat) : Int) < lastI (toks s.data.toList) := by
    rcases setT_cases r with ⟨hc, _⟩ | ⟨t, a, b, _, _, e⟩
    · cases hneg : negT r
      · rw [hneg] at hc
        intro e; exact hc (h1.last.1 e)
      · rw [hneg] at hc
        cases r with
        | nil => cases hneg
        | cons t q =>
          have ht : t = (33, false) := by unfold negT at hneg; simpa using hneg
          subst ht
          intro e; exact hc (h1.next.last.1 e)
    · rw [e] at hn; cases hn
  have hB := Lib.hid (none_at w)
  have hsz : (s.extract (k + 1) s.size).size ≤ maxLen := by unfold maxLen; simp; omega
  have HC := Lib.hid (fun w => (by
    have := begins_any (s.extract (k + 1) s.size) ⟨#[33]⟩ hsz (by unfold maxLen; decide) w
    rw [extract_mid, List.take_of_length_le (by simp)] at this
    rw [← hb]
    exact this : Calls Try.prog 18 #[.string (s.extract (k + 1) s.size), .string ⟨#[33]⟩] w fun e w' => e = .returned (.bool (negT r)) ∧ w = w'))
  clear hb h1 h hn
  generalize lastI (toks s.data.toList) = z at *
  cases hneg : negT r
  · rw [hneg] at hlt HC
    replace hlt : z ≤ (k : Int) + 1 := by simp at hlt; omega
    go_enter Try.func31, Try.ntmps31
    go_wp2_with (go_at_call 18; (with_reducible refine (HC.out _).mono ?_); rintro e w' ⟨rfl, rfl⟩)
    exact bodyPost_ret (setAt_results _ _ noneP hB.out 0 _ rfl rfl) rfl ⟨rfl, (Below.refl _ _).alloc (Nat.le_refl _) _⟩
  · rw [hneg] at hlt HC
    replace hlt : z ≤ (k : Int) + 1 + 1 := by simp at hlt; omega
    go_enter Try.func31, Try.ntmps31
    go_wp2_with (go_at_call 18; (with_reducible refine (HC.out _).mono ?_); rintro e w' ⟨rfl, rfl⟩)
    exact bodyPost_ret (setAt_results _ _ noneP hB.out 0 _ rfl rfl) rfl ⟨rfl, (Below.refl _ _).alloc (Nat.le_refl _) _⟩
/-- the loop's word: what was passed of a set's tokens. -/
def Pas (s : ByteArray) (q : Nat) (L : List Tok) (e : Nat) : Prop := ∃ pre ts, L = pre ++ ts ∧ e = q + lenT pre ∧ At s e ts ∧ ((93, false) ∈ pre.tail → False)
theorem first_close {α : Type} {c : α} : ∀ {a a' b b' : List α}, a ++ c :: b = a' ++ c :: b' → c ∉ a → c ∉ a' → a = a'
  | [], [], _, _, _, _, _ => rfl
  | [], x :: a', _, _, h, _, h2 => by injection h with h3; exact absurd (by rw [h3]; simp) h2
  | x :: a, [], _, _, h, h1, _ => by injection h with h3; exact absurd (by rw [h3]; simp) h1
  | x :: a, y :: a', b, b', h, h1, h2 => by
    injection h with h3 h4
    rw [h3, first_close h4 (fun e => h1 (List.mem_cons_of_mem _ e)) (fun e => h2 (List.mem_cons_of_mem _ e))]
theorem lenT_pos (t : Tok) (r : List Tok) : 1 ≤ lenT (t :: r) := by have := tl_pos t; rw [lenT]; omega
set_option maxHeartbeats 2000000 in
set_option maxRecDepth 100000 in
theorem setAt_some (s : ByteArray) (k : Nat) (r : List Tok) (hs : s.size ≤ 70368744177664) (h : Rch s k ((91, false) :: r)) (t : Tok) (a b : List Tok) (hr : bodyT (negT r) r = t :: (a ++ (93, false) :: b)) (hna : (93, false) ∉ a) (w : World) :
    Calls Try.prog 31 #[.string s, .int .i64 k, .int .i64 (lastI (toks s.data.toList))] w fun e w' => e = .returned (.tuple #[prtV ⟨false, true, fun x => mem (t :: a) x != negT r⟩, .int .i64 ((2 + (negT r).toNat + lenT (t :: a) : Nat) : Int)]) ∧ Below w.heap.size w w' := by
  have hl := h.at_.lt
  have h1 := h.next
  have hle := h1.at_.1
  have hb := beg_not s _ r h1.at_
  have hq : Rch s (k + 1 + (negT r).toNat) (t :: (a ++ (93, false) :: b)) := by
    rw [← hr]
    cases hneg : negT r
    · exact h1
    · cases r with
      | nil => cases hneg
      | cons t q =>
        have ht : t = (33, false) := by unfold negT at hneg; simpa using hneg
        subst ht
        exact h1.next
  have hlt : ((k + 1 + (negT r).toNat : Nat) : Int) < lastI (toks s.data.toList) := hq.last.2 (by simp)
  have hB := Lib.hid (none_at w)
  have hsz : (s.extract (k + 1) s.size).size ≤ maxLen := by unfold maxLen; simp; omega
  have HC := Lib.hid (fun w => (by
    have := begins_any (s.extract (k + 1) s.size) ⟨#[33]⟩ hsz (by unfold maxLen; decide) w
    rw [extract_mid, List.take_of_length_le (by simp)] at this
    rw [← hb]
    exact this : Calls Try.prog 18 #[.string (s.extract (k + 1) s.size), .string ⟨#[33]⟩] w fun e w' => e = .returned (.bool (negT r)) ∧ w = w'))
  clear hb h1 h hr
  generalize lastI (toks s.data.toList) = z at *
  cases hneg : negT r
  · rw [hneg] at hlt HC hq
    replace hlt : (k : Int) + 1 < z := by simp at hlt; omega
    replace hq : Rch s (k + 1) (t :: (a ++ (93, false) :: b)) := hq
    have hqa := hq.at_
    have HX := Lib.hid (hqa.cut (a := t :: a) (b := (93, false) :: b))
    have HQ := Lib.hid hq
    have hq1 := hq.at_.1
    have HB := Lib.hid hB.out
    clear hq hB
    go_enter Try.func31, Try.ntmps31
    go_wp2_with (go_at_call 18; (with_reducible refine (HC.out _).mono ?_); rintro e w' ⟨rfl, rfl⟩)
    clear HC hqa
    go_loop [10, 11, 12] (fun i u v => ∃ e : Nat, i = .int .i64 e ∧ Pas s (k + 1) (t :: (a ++ (93, false) :: b)) e) (fun i _ _ => s.size - (intOf i).toNat)
    case atStart => exact ⟨k + 1, by go_num, [], _, rfl, rfl, HQ.out.at_, fun e => by cases e⟩
    case round =>
      obtain ⟨e, rfl, pre, ts, hp, he, hat, hnc⟩ := hrel
      cases ts with
      | nil =>
        rw [List.append_nil] at hp
        rw [← hp] at hnc
        exact (hnc (by simp)).elim
      | cons u ts =>
        have hel := hat.lt
        have hen := hat.next
        have hen1 := hen.1
        have htl := tl_pos u
        have HCb := Lib.hid (fun w => byteAt_any s e u ts hat (by unfold maxLen; omega) w)
        have HN := Lib.hid hen
        have hcl := hat.close hel
        clear hen
        cases pre with
        | nil =>
          have he0 : e = k + 1 := he
          have hge : (((e : Int) == (k : Int) + 1) : Bool) = true := by rw [beq_iff_eq]; omega
          have HR := Lib.hid (show Pas s (k + 1) (t :: (a ++ (93, false) :: b)) (e + tl u) from ⟨[u], ts, hp, by rw [he0]; simp [lenT], HN.out, fun x => by cases x⟩)
          clear he0 he hp hat hnc hcl HX
          generalize tl u = d at *
          go_wp2_with (go_at_call 25; (with_reducible refine (HCb.out _).mono ?_); rintro e w' ⟨rfl, rfl⟩)
          go_round
          case rel => exact ⟨e + d, by go_num, HR.out⟩
          case measure => simp [intOf]; omega
        | cons p0 pre =>
          have hp0 := lenT_pos p0 pre
          have hge : (((e : Int) == (k : Int) + 1) : Bool) = false := by rw [beq_eq_false_iff_ne]; omega
          by_cases hu : u = (93, false)
          · subst hu
            have hpa : t = p0 ∧ a = pre := by
              injection hp with h1 h2
              exact ⟨h1, first_close h2 hna (fun x => hnc x)⟩
            obtain ⟨rfl, rfl⟩ := hpa
            rw [← he] at HX
            have hz : (e : Int) ≤ s.size := by omega
            have hke : (k : Int) + 1 ≤ (e : Int) := by omega
            have HM := Lib.hid (fun w => (by
              have := members_any (s.extract (k + 1) e) (by simp; omega) w
              rw [HX.out] at this
              exact this : Calls Try.prog 34 #[.string (s.extract (k + 1) e)] w fun e w' => e = .returned (.agg #[wd (mem (t :: a)) 0, wd (mem (t :: a)) 1, wd (mem (t :: a)) 2, wd (mem (t :: a)) 3]) ∧ Below w.heap.size w w'))
            have HO := Lib.hid (fun w => (show Calls Try.prog 30 #[.agg #[wd (mem (t :: a)) 0, wd (mem (t :: a)) 1, wd (mem (t :: a)) 2, wd (mem (t :: a)) 3]] w fun e w' => e = .returned (.agg #[wd (notF (mem (t :: a))) 0, wd (notF (mem (t :: a))) 1, wd (notF (mem (t :: a))) 2, wd (notF (mem (t :: a))) 3]) ∧ Below w.heap.size w w' from others_any (mem (t :: a)) w))
            have HP := Lib.hid (show prtV ⟨false, true, (mem (t :: a))⟩ = prtV ⟨false, true, fun x => mem (t :: a) x != false⟩ by rw [bne_false'])
            have HV := Lib.hid (fun W (h : Blk W w.heap.size 39 #[.bool false, .bool true, wd (mem (t :: a)) 0, wd (mem (t :: a)) 1, wd (mem (t :: a)) 2, wd (mem (t :: a)) 3]) => setAt_results W w.heap.size ⟨false, true, (mem (t :: a))⟩ h ((2 + false.toNat + lenT (t :: a) : Nat) : Int))
            have g : (((s[e].toNat : Int) != 93) : Bool) = false := u8_nn _ 93 (hcl.2 rfl)
            have hL : (e : Int) + 1 - k = ((2 + false.toNat + lenT (t :: a) : Nat) : Int) := by simp only [Bool.toNat_true, Bool.toNat_false]; omega
            have HLl := Lib.hid hL
            have HB0 := Lib.hid (show Blk (w.alloc (.cells #[.bool false, .bool false, .int .u64 0, .int .u64 0, .int .u64 0, .int .u64 0] 39)) w.heap.size 39 #[.bool false, .bool false, .int .u64 0, .int .u64 0, .int .u64 0, .int .u64 0] from Blk.new _ _ _)
            clear hnc hcl hat hp hL he HX HQ HN HCb
            generalize prtV ⟨false, true, (mem (t :: a))⟩ = PV at *
            clear HO
            unfold wd at *
            generalize word (mem (t :: a)) 0 = v0 at *
            generalize word (mem (t :: a)) 1 = v1 at *
            generalize word (mem (t :: a)) 2 = v2 at *
            generalize word (mem (t :: a)) 3 = v3 at *
            go_wp2_with (go_at_call 34; (with_reducible refine (HM.out _).mono ?_); rintro e w1 ⟨rfl, hb1⟩; have hB1 := Blk.later HB0.out hb1; have hz1 : w.heap.size < w1.heap.size := (by have := hb1.size; simp at this; omega); have mc0 := hB1.cell 0; have mf0 := hB1.frozen 0; have mc1 := hB1.cell 1; have mf1 := hB1.frozen 1; have mc2 := hB1.cell 2; have mf2 := hB1.frozen 2; have mc3 := hB1.cell 3; have mf3 := hB1.frozen 3; have mc4 := hB1.cell 4; have mf4 := hB1.frozen 4; have mc5 := hB1.cell 5; have mf5 := hB1.frozen 5; simp only [List.getElem?_toArray, List.getElem?_cons_zero, List.getElem?_cons_succ] at mc0 mc1 mc2 mc3 mc4 mc5)
            refine bodyPost_ret (HV.out _ (((((((hB1.set 0 _).set 1 _).set 2 _).set 3 _).set 4 _).set 5 _).alloc _) _ rfl (congrArg (Value.int .i64) HLl.out)) rfl ⟨ret_val (by rw [HP.out]), ?_⟩
            exact (((((((((Below.refl w.heap.size w).alloc (Nat.le_refl _) _).trans (hb1.mono (by simp))).setCell (p := ⟨w.heap.size, 0, none⟩) (Nat.le_refl _) _).setCell (p := ⟨w.heap.size, 1, none⟩) (Nat.le_refl _) _).setCell (p := ⟨w.heap.size, 2, none⟩) (Nat.le_refl _) _).setCell (p := ⟨w.heap.size, 3, none⟩) (Nat.le_refl _) _).setCell (p := ⟨w.heap.size, 4, none⟩) (Nat.le_refl _) _).setCell (p := ⟨w.heap.size, 5, none⟩) (Nat.le_refl _) _).alloc (by simp only [size_set]; omega) _
          · have hu93 : ¬ s[e] = 93 := fun x => hu (hcl.1 x)
            have g : (((s[e].toNat : Int) != 93) : Bool) = true := u8_ne _ 93 hu93
            have HR := Lib.hid (show Pas s (k + 1) (t :: (a ++ (93, false) :: b)) (e + tl u) from ⟨p0 :: (pre ++ [u]), ts, by rw [hp]; simp, by rw [he]; simp [lenT, lenT_append]; omega, HN.out, fun x => by
              rcases List.mem_append.1 (show (93, false) ∈ pre ++ [u] from x) with x | x
              · exact hnc x
              · exact hu (List.mem_singleton.1 x).symm⟩)
            clear hp0 he hp hat hnc hcl HX hu93 hu
            generalize tl u = d at *
            go_wp2_with (go_at_call 25; (with_reducible refine (HCb.out _).mono ?_); rintro e w' ⟨rfl, rfl⟩)
            go_round
            case rel => exact ⟨e + d, by go_num, HR.out⟩
            case measure => simp [intOf]; omega
  · rw [hneg] at hlt HC hq
    replace hlt : (k : Int) + 1 + 1 < z := by simp at hlt; omega
    replace hq : Rch s (k + 1 + 1) (t :: (a ++ (93, false) :: b)) := hq
    have hqa := hq.at_
    have HX := Lib.hid (hqa.cut (a := t :: a) (b := (93, false) :: b))
    have HQ := Lib.hid hq
    have hq1 := hq.at_.1
    have HB := Lib.hid hB.out
    clear hq hB
    go_enter Try.func31, Try.ntmps31
    go_wp2_with (go_at_call 18; (with_reducible refine (HC.out _).mono ?_); rintro e w' ⟨rfl, rfl⟩)
    clear HC hqa
    go_loop [10, 11, 12] (fun i u v => ∃ e : Nat, i = .int .i64 e ∧ Pas s (k + 1 + 1) (t :: (a ++ (93, false) :: b)) e) (fun i _ _ => s.size - (intOf i).toNat)
    case atStart => exact ⟨k + 1 + 1, by go_num, [], _, rfl, rfl, HQ.out.at_, fun e => by cases e⟩
    case round =>
      obtain ⟨e, rfl, pre, ts, hp, he, hat, hnc⟩ := hrel
      cases ts with
      | nil =>
        rw [List.append_nil] at hp
        rw [← hp] at hnc
        exact (hnc (by simp)).elim
      | cons u ts =>
        have hel := hat.lt
        have hen := hat.next
        have hen1 := hen.1
        have htl := tl_pos u
        have HCb := Lib.hid (fun w => byteAt_any s e u ts hat (by unfold maxLen; omega) w)
        have HN := Lib.hid hen
        have hcl := hat.close hel
        clear hen
        cases pre with
        | nil =>
          have he0 : e = k + 1 + 1 := he
          have hge : (((e : Int) == (k : Int) + 1 + 1) : Bool) = true := by rw [beq_iff_eq]; omega
          have HR := Lib.hid (show Pas s (k + 1 + 1) (t :: (a ++ (93, false) :: b)) (e + tl u) from ⟨[u], ts, hp, by rw [he0]; simp [lenT], HN.out, fun x => by cases x⟩)
          clear he0 he hp hat hnc hcl HX
          generalize tl u = d at *
          go_wp2_with (go_at_call 25; (with_reducible refine (HCb.out _).mono ?_); rintro e w' ⟨rfl, rfl⟩)
          go_round
          case rel => exact ⟨e + d, by go_num, HR.out⟩
          case measure => simp [intOf]; omega
        | cons p0 pre =>
          have hp0 := lenT_pos p0 pre
          have hge : (((e : Int) == (k : Int) + 1 + 1) : Bool) = false := by rw [beq_eq_false_iff_ne]; omega
          by_cases hu : u = (93, false)
          · subst hu
            have hpa : t = p0 ∧ a = pre := by
              injection hp with h1 h2
              exact ⟨h1, first_close h2 hna (fun x => hnc x)⟩
            obtain ⟨rfl, rfl⟩ := hpa
            rw [← he] at HX
            have hz : (e : Int) ≤ s.size := by omega
            have hke : (k : Int) + 1 + 1 ≤ (e : Int) := by omega
            have HM := Lib.hid (fun w => (by
              have := members_any (s.extract (k + 1 + 1) e) (by simp; omega) w
              rw [HX.out] at this
              exact this : Calls Try.prog 34 #[.string (s.extract (k + 1 + 1) e)] w fun e w' => e = .returned (.agg #[wd (mem (t :: a)) 0, wd (mem (t :: a)) 1, wd (mem (t :: a)) 2, wd (mem (t :: a)) 3]) ∧ Below w.heap.size w w'))
            have HO := Lib.hid (fun w => (show Calls Try.prog 30 #[.agg #[wd (mem (t :: a)) 0, wd (mem (t :: a)) 1, wd (mem (t :: a)) 2, wd (mem (t :: a)) 3]] w fun e w' => e = .returned (.agg #[wd (notF (mem (t :: a))) 0, wd (notF (mem (t :: a))) 1, wd (notF (mem (t :: a))) 2, wd (notF (mem (t :: a))) 3]) ∧ Below w.heap.size w w' from others_any (mem (t :: a)) w))
            have HP := Lib.hid (show prtV ⟨false, true, (notF (mem (t :: a)))⟩ = prtV ⟨false, true, fun x => mem (t :: a) x != true⟩ by rw [bne_true'])
            have HV := Lib.hid (fun W (h : Blk W w.heap.size 39 #[.bool false, .bool true, wd (notF (mem (t :: a))) 0, wd (notF (mem (t :: a))) 1, wd (notF (mem (t :: a))) 2, wd (notF (mem (t :: a))) 3]) => setAt_results W w.heap.size ⟨false, true, (notF (mem (t :: a)))⟩ h ((2 + true.toNat + lenT (t :: a) : Nat) : Int))
            have g : (((s[e].toNat : Int) != 93) : Bool) = false := u8_nn _ 93 (hcl.2 rfl)
            have hL : (e : Int) + 1 - k = ((2 + true.toNat + lenT (t :: a) : Nat) : Int) := by simp only [Bool.toNat_true, Bool.toNat_false]; omega
            have HLl := Lib.hid hL
            have HB0 := Lib.hid (show Blk (w.alloc (.cells #[.bool false, .bool false, .int .u64 0, .int .u64 0, .int .u64 0, .int .u64 0] 39)) w.heap.size 39 #[.bool false, .bool false, .int .u64 0, .int .u64 0, .int .u64 0, .int .u64 0] from Blk.new _ _ _)
            clear hnc hcl hat hp hL he HX HQ HN HCb
            generalize prtV ⟨false, true, (notF (mem (t :: a)))⟩ = PV at *
            unfold wd at *
            generalize word (mem (t :: a)) 0 = v0 at *
            generalize word (mem (t :: a)) 1 = v1 at *
            generalize word (mem (t :: a)) 2 = v2 at *
            generalize word (mem (t :: a)) 3 = v3 at *
            generalize word (notF (mem (t :: a))) 0 = x0 at *
            generalize word (notF (mem (t :: a))) 1 = x1 at *
            generalize word (notF (mem (t :: a))) 2 = x2 at *
            generalize word (notF (mem (t :: a))) 3 = x3 at *
            go_wp2_with (first | (go_at_call 30; (with_reducible refine (HO.out _).mono ?_); rintro e w2 ⟨rfl, hb2⟩; have hB2 := Blk.later (hB1.alloc _) hb2; have hN2 := Blk.later (Blk.new w1 37 #[.int .u64 v0, .int .u64 v1, .int .u64 v2, .int .u64 v3]) hb2; have hz2 : w1.heap.size < w2.heap.size := (by have := hb2.size; simp at this; omega); have oc0 := hB2.cell 0; have of0 := hB2.frozen 0; have oc1 := hB2.cell 1; have of1 := hB2.frozen 1; have oc2 := hB2.cell 2; have of2 := hB2.frozen 2; have oc3 := hB2.cell 3; have of3 := hB2.frozen 3; have oc4 := hB2.cell 4; have of4 := hB2.frozen 4; have oc5 := hB2.cell 5; have of5 := hB2.frozen 5; simp only [List.getElem?_toArray, List.getElem?_cons_zero, List.getElem?_cons_succ] at oc0 oc1 oc2 oc3 oc4 oc5; have pc0 := hN2.cell 0; have pf0 := hN2.frozen 0; have pc1 := hN2.cell 1; have pf1 := hN2.frozen 1; have pc2 := hN2.cell 2; have pf2 := hN2.frozen 2; have pc3 := hN2.cell 3; have pf3 := hN2.frozen 3; simp only [List.getElem?_toArray, List.getElem?_cons_zero, List.getElem?_cons_succ] at pc0 pc1 pc2 pc3) | (go_at_call 34; (with_reducible refine (HM.out _).mono ?_); rintro e w1 ⟨rfl, hb1⟩; have hB1 := Blk.later HB0.out hb1; have hz1 : w.heap.size < w1.heap.size := (by have := hb1.size; simp at this; omega); have mc0 := hB1.cell 0; have mf0 := hB1.frozen 0; have mc1 := hB1.cell 1; have mf1 := hB1.frozen 1; have mc2 := hB1.cell 2; have mf2 := hB1.frozen 2; have mc3 := hB1.cell 3; have mf3 := hB1.frozen 3; have mc4 := hB1.cell 4; have mf4 := hB1.frozen 4; have mc5 := hB1.cell 5; have mf5 := hB1.frozen 5; simp only [List.getElem?_toArray, List.getElem?_cons_zero, List.getElem?_cons_succ] at mc0 mc1 mc2 mc3 mc4 mc5))
            refine bodyPost_ret (HV.out _ ((((((((((hB2.other w1.heap.size 0 _ (by omega)).other w1.heap.size 1 _ (by omega)).other w1.heap.size 2 _ (by omega)).other w1.heap.size 3 _ (by omega)).set 0 _).set 1 _).set 2 _).set 3 _).set 4 _).set 5 _) _ rfl (congrArg (Value.int .i64) HLl.out)) rfl ⟨ret_val (by rw [HP.out]), ?_⟩
            exact ((((((((((((((Below.refl w.heap.size w).alloc (Nat.le_refl _) _).trans (hb1.mono (by simp))).alloc (by omega) _).trans (hb2.mono (by simp; omega))).setCell (p := ⟨w1.heap.size, 0, none⟩) (by show w.heap.size ≤ w1.heap.size; omega) _).setCell (p := ⟨w1.heap.size, 1, none⟩) (by show w.heap.size ≤ w1.heap.size; omega) _).setCell (p := ⟨w1.heap.size, 2, none⟩) (by show w.heap.size ≤ w1.heap.size; omega) _).setCell (p := ⟨w1.heap.size, 3, none⟩) (by show w.heap.size ≤ w1.heap.size; omega) _).setCell (p := ⟨w.heap.size, 0, none⟩) (Nat.le_refl _) _).setCell (p := ⟨w.heap.size, 1, none⟩) (Nat.le_refl _) _).setCell (p := ⟨w.heap.size, 2, none⟩) (Nat.le_refl _) _).setCell (p := ⟨w.heap.size, 3, none⟩) (Nat.le_refl _) _).setCell (p := ⟨w.heap.size, 4, none⟩) (Nat.le_refl _) _).setCell (p := ⟨w.heap.size, 5, none⟩) (Nat.le_refl _) _
          · have hu93 : ¬ s[e] = 93 := fun x => hu (hcl.1 x)
            have g : (((s[e].toNat : Int) != 93) : Bool) = true := u8_ne _ 93 hu93
            have HR := Lib.hid (show Pas s (k + 1 + 1) (t :: (a ++ (93, false) :: b)) (e + tl u) from ⟨p0 :: (pre ++ [u]), ts, by rw [hp]; simp, by rw [he]; simp [lenT, lenT_append]; omega, HN.out, fun x => by
              rcases List.mem_append.1 (show (93, false) ∈ pre ++ [u] from x) with x | x
              · exact hnc x
              · exact hu (List.mem_singleton.1 x).symm⟩)
            clear hp0 he hp hat hnc hcl HX hu93 hu
            generalize tl u = d at *
            go_wp2_with (go_at_call 25; (with_reducible refine (HCb.out _).mono ?_); rintro e w' ⟨rfl, rfl⟩)
            go_round
            case rel => exact ⟨e + d, by go_num, HR.out⟩
            case measure => simp [intOf]; omega
end Go.Proofs.Ytacohhmhggljhaa
