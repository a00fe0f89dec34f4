/- A terminal as plain lists, and its facts. -/
import Derived.Test.YtojbgokbobkbdaaRows
namespace Go.Proofs.Ytojbgokbobkbdaa
abbrev Bs := List UInt8
structure TS where
  L : List Bs
  line : Bs
  echo : Bool
  shown : Bs
def cnt : List Bs → Nat
  | [] => 0
  | s :: r => max 1 s.length + cnt r
theorem cnt_app (a b : List Bs) : cnt (a ++ b) = cnt a + cnt b := by
  induction a with
  | nil => simp [cnt]
  | cons s r ih => simp [cnt, ih]; omega
theorem len_cnt (a : List Bs) : a.length ≤ cnt a := by
  induction a with
  | nil => simp [cnt]
  | cons s r ih => simp [cnt]; omega
theorem cnt_one (s : Bs) : cnt [s] = max 1 s.length := by simp [cnt]
def backs : Nat → Bs
  | 0 => []
  | n + 1 => [8, 32, 8] ++ backs n
theorem backs_len (n : Nat) : (backs n).length = 3 * n := by
  induction n with
  | zero => rfl
  | succ n ih => simp [backs, ih]; omega
theorem backs_app (n m : Nat) : backs (n + m) = backs n ++ backs m := by
  induction n with
  | zero => simp [backs]
  | succ n ih => rw [Nat.succ_add]; simp [backs, ih]
def isFull (s : TS) : Bool := decide (1024 ≤ cnt s.L + s.line.length)
def eraseP (n : Nat) (s : TS) : TS := ⟨s.L, s.line.take (s.line.length - n), s.echo, if s.echo then s.shown ++ backs (min n s.line.length) else s.shown⟩
def enterP (s : TS) : TS := if isFull s then s else ⟨s.L ++ [s.line ++ [10]], [], s.echo, s.shown ++ [10]⟩
def endP (s : TS) : TS := if s.line.length = 0 ∧ isFull s = true then s else ⟨s.L ++ [s.line], [], s.echo, s.shown⟩
def addP (b : UInt8) (s : TS) : TS := if 256 ≤ s.line.length ∨ isFull s = true then s else ⟨s.L, s.line ++ [b], s.echo, if s.echo then s.shown ++ [b] else s.shown⟩
def prints (b : UInt8) : Prop := b.toNat = 9 ∨ (32 ≤ b.toNat ∧ b.toNat ≤ 126)
instance (b : UInt8) : Decidable (prints b) := by unfold prints; exact inferInstance
def keyP (b : UInt8) (s : TS) : TS :=
  if b.toNat = 10 ∨ b.toNat = 13 then enterP s else if b.toNat = 4 then endP s else if b.toNat = 8 ∨ b.toNat = 127 then eraseP 1 s
  else if b.toNat = 21 then eraseP s.line.length s else if prints b then addP b s else s
def typeP (l : Bs) (s : TS) : TS := l.foldl (fun s b => keyP b s) s
theorem typeP_app (a b : Bs) (s : TS) : typeP (a ++ b) s = typeP b (typeP a s) := List.foldl_append ..
theorem typeP_one (b : UInt8) (s : TS) : typeP [b] s = keyP b s := rfl
def readP (n : Int) (s : TS) : TS :=
  if n < 1 then s else match s.L with
    | [] => s
    | x :: r => if n < x.length then ⟨x.drop n.toNat :: r, s.line, s.echo, s.shown⟩ else ⟨r, s.line, s.echo, s.shown⟩
def readS (n : Int) (s : TS) : Bs :=
  if n < 1 then [] else match s.L with
    | [] => []
    | x :: _ => if n < x.length then x.take n.toNat else x
def readB (n : Int) (s : TS) : Bool := if n < 1 then false else match s.L with
    | [] => false
    | _ :: _ => true
def echoP (on : Bool) (s : TS) : TS := if on = s.echo then s else ⟨[], [], on, s.shown⟩
def clearP (s : TS) : TS := ⟨[], [], true, s.shown⟩
def writeP (t : Bs) (s : TS) : TS := ⟨s.L, s.line, s.echo, s.shown ++ t⟩
def new0 : TS := ⟨[], [], true, []⟩
/-- what always holds. -/
structure Ok (s : TS) : Prop where
  all : cnt s.L + s.line.length ≤ 1024
  line : s.line.length ≤ 256
theorem Ok.lines {s : TS} (h : Ok s) : s.L.length ≤ 1024 := by have := len_cnt s.L; have := h.all; omega
theorem ok_new : Ok new0 := ⟨by decide, by decide⟩
theorem ok_erase {s : TS} (h : Ok s) (n : Nat) : Ok (eraseP n s) := ⟨by have := h.all; simp [eraseP]; omega, by have := h.line; simp [eraseP]; omega⟩
theorem ok_enter {s : TS} (h : Ok s) : Ok (enterP s) := by
  unfold enterP
  split
  · exact h
  · rename_i hf
    simp [isFull] at hf
    exact ⟨by simp [cnt_app, cnt_one]; omega, by simp⟩
theorem ok_end {s : TS} (h : Ok s) : Ok (endP s) := by
  unfold endP
  split
  · exact h
  · rename_i hf
    have ha := h.all
    simp [isFull] at hf
    refine ⟨?_, by simp⟩
    simp [cnt_app, cnt_one]
    by_cases h0 : s.line = []
    · have := hf h0
      simp [h0] at this ⊢
      omega
    · have : 0 < s.line.length := List.length_pos_iff.2 h0
      omega
theorem ok_add {s : TS} (h : Ok s) (b : UInt8) : Ok (addP b s) := by
  unfold addP
  split
  · exact h
  · rename_i hf
    have ha := h.all
    simp [isFull] at hf
    exact ⟨by simp; omega, by simp; omega⟩
theorem ok_key {s : TS} (h : Ok s) (b : UInt8) : Ok (keyP b s) := by
  unfold keyP
  split
  · exact ok_enter h
  split
  · exact ok_end h
  split
  · exact ok_erase h _
  split
  · exact ok_erase h _
  split
  · exact ok_add h b
  · exact h
theorem ok_type {s : TS} (h : Ok s) (l : Bs) : Ok (typeP l s) := by
  induction l generalizing s with
  | nil => exact h
  | cons b r ih => exact ih (ok_key h b)
theorem cnt_drop (x : Bs) (r : List Bs) (k : Nat) : cnt (x.drop k :: r) ≤ cnt (x :: r) := by simp [cnt]; omega
theorem ok_read {s : TS} (h : Ok s) (n : Int) : Ok (readP n s) := by
  unfold readP
  split
  · exact h
  obtain ⟨L, line, echo, sh⟩ := s
  cases L with
  | nil => exact h
  | cons x r =>
    have ha := h.all
    simp only at ha ⊢
    split
    · have := cnt_drop x r n.toNat
      exact ⟨by simp only; omega, h.line⟩
    · exact ⟨by simp [cnt] at ha ⊢; omega, h.line⟩
theorem ok_echo {s : TS} (h : Ok s) (on : Bool) : Ok (echoP on s) := by
  unfold echoP
  split
  · exact h
  · exact ⟨by simp [cnt], by simp⟩
theorem ok_clear (s : TS) : Ok (clearP s) := ⟨by simp [clearP, cnt], by simp [clearP]⟩
theorem ok_write {s : TS} (h : Ok s) (t : Bs) : Ok (writeP t s) := ⟨h.all, h.line⟩
/-- how much is shown. -/
theorem shown_key {s : TS} (h : Ok s) (b : UInt8) : (keyP b s).shown.length ≤ s.shown.length + 768 := by
  have hl := h.line
  have he : ∀ n, (eraseP n s).shown.length ≤ s.shown.length + 768 := fun n => by
    unfold eraseP
    by_cases e : s.echo = true <;> simp [e, backs_len]
    omega
  unfold keyP
  split
  · unfold enterP; split <;> simp
  split
  · unfold endP; split <;> simp
  split
  · exact he _
  split
  · exact he _
  split
  · unfold addP
    split
    · omega
    · by_cases e : s.echo = true <;> simp [e]
  · omega
theorem shown_type {s : TS} (h : Ok s) (l : Bs) : (typeP l s).shown.length ≤ s.shown.length + 768 * l.length := by
  induction l generalizing s with
  | nil => simp [typeP]
  | cons b r ih =>
    have h1 := ih (ok_key h b)
    have h2 := shown_key h b
    have h3 : typeP (b :: r) s = typeP r (keyP b s) := rfl
    rw [h3]
    simp only [List.length_cons]
    omega
theorem shown_read (n : Int) (s : TS) : (readP n s).shown = s.shown ∧ (readP n s).echo = s.echo ∧ (readP n s).line = s.line := by
  unfold readP
  split
  · exact ⟨rfl, rfl, rfl⟩
  split
  · exact ⟨rfl, rfl, rfl⟩
  split <;> exact ⟨rfl, rfl, rfl⟩
theorem shown_echo (on : Bool) (s : TS) : (echoP on s).shown = s.shown ∧ (echoP on s).echo = on := by
  unfold echoP
  split
  · rename_i h; exact ⟨rfl, h.symm⟩
  · exact ⟨rfl, rfl⟩
/-- erasing one by one. -/
theorem erase_more (n : Nat) (s : TS) (h : n + 1 ≤ s.line.length) : eraseP n (eraseP 1 s) = eraseP (n + 1) s := by
  unfold eraseP
  have h1 : (s.line.take (s.line.length - 1)).length = s.line.length - 1 := by simp
  simp only [h1, List.take_take]
  rw [show min (s.line.length - 1 - n) (s.line.length - 1) = s.line.length - (n + 1) by omega]
  cases s.echo
  · simp
  · simp only [if_true]
    rw [show min 1 s.line.length = 1 by omega, show min n (s.line.length - 1) = n by omega, show min (n + 1) s.line.length = 1 + n by omega, backs_app, List.append_assoc]
theorem erase_zero (s : TS) : eraseP 0 s = s := by
  unfold eraseP
  obtain ⟨L, line, echo, sh⟩ := s
  simp [backs]
/-- typed with the echo off. -/
theorem hide_key (b : UInt8) (s : TS) (h : s.echo = false) : (keyP b s).echo = false ∧ ∃ k, (keyP b s).shown = s.shown ++ List.replicate k 10 := by
  have he : ∀ n, (eraseP n s).echo = false ∧ ∃ k, (eraseP n s).shown = s.shown ++ List.replicate k 10 := fun n => ⟨h, 0, by simp [eraseP, h]⟩
  unfold keyP
  split
  · unfold enterP
    split
    · exact ⟨h, 0, by simp⟩
    · exact ⟨h, 1, rfl⟩
  split
  · unfold endP
    split
    · exact ⟨h, 0, by simp⟩
    · exact ⟨h, 0, by simp⟩
  split
  · exact he _
  split
  · exact he _
  split
  · unfold addP
    split
    · exact ⟨h, 0, by simp⟩
    · exact ⟨h, 0, by simp [h]⟩
  · exact ⟨h, 0, by simp⟩
theorem hide_type (l : Bs) (s : TS) (h : s.echo = false) : (typeP l s).echo = false ∧ ∃ k, (typeP l s).shown = s.shown ++ List.replicate k 10 := by
  induction l generalizing s with
  | nil => exact ⟨h, 0, by simp [typeP]⟩
  | cons b r ih =>
    obtain ⟨h1, k1, h2⟩ := hide_key b s h
    obtain ⟨h3, k2, h4⟩ := ih (keyP b s) h1
    exact ⟨h3, k1 + k2, by rw [show typeP (b :: r) s = typeP r (keyP b s) from rfl, h4, h2, List.append_assoc, List.replicate_append_replicate]⟩
/-- bytes that are printed. -/
theorem type_print (l : Bs) (hl : ∀ b ∈ l, prints b) (line sh : Bs) (h : line.length + l.length ≤ 250) : typeP l ⟨[], line, true, sh⟩ = ⟨[], line ++ l, true, sh ++ l⟩ := by
  induction l generalizing line sh with
  | nil => simp [typeP]
  | cons b r ih =>
    have hb := hl b (by simp)
    simp at h
    have hk : keyP b ⟨[], line, true, sh⟩ = ⟨[], line ++ [b], true, sh ++ [b]⟩ := by
      unfold keyP
      have hb2 := hb
      unfold prints at hb2
      rw [if_neg (by omega), if_neg (by omega), if_neg (by omega), if_neg (by omega), if_pos hb]
      unfold addP
      rw [if_neg (by simp [isFull, cnt]; omega)]
      rfl
    rw [show typeP (b :: r) ⟨[], line, true, sh⟩ = typeP r (keyP b ⟨[], line, true, sh⟩) from rfl, hk, ih (fun x hx => hl x (by simp [hx])) _ _ (by simp; omega)]
    simp
theorem type_enter (l : Bs) (hl : ∀ b ∈ l, prints b) (sh : Bs) (h : l.length ≤ 250) (e : UInt8) (he : e.toNat = 10 ∨ e.toNat = 13) : typeP (l ++ [e]) ⟨[], [], true, sh⟩ = ⟨[l ++ [10]], [], true, sh ++ l ++ [10]⟩ := by
  rw [typeP_app, type_print l hl [] sh (by simpa using h), typeP_one]
  unfold keyP
  rw [if_pos he]
  unfold enterP
  rw [if_neg (by simp [isFull, cnt]; omega)]
  simp
theorem type_end (l : Bs) (hl : ∀ b ∈ l, prints b) (sh : Bs) (h : l.length ≤ 250) (e : UInt8) (he : e.toNat = 4) : typeP (l ++ [e]) ⟨[], [], true, sh⟩ = ⟨[l], [], true, sh ++ l⟩ := by
  rw [typeP_app, type_print l hl [] sh (by simpa using h), typeP_one]
  unfold keyP
  rw [if_neg (by omega), if_pos he]
  unfold endP
  rw [if_neg (by simp [isFull, cnt]; omega)]
  simp
theorem type_kill (l : Bs) (hl : ∀ b ∈ l, prints b) (sh : Bs) (h : l.length ≤ 250) (e : UInt8) (he : e.toNat = 21) : typeP (l ++ [e]) ⟨[], [], true, sh⟩ = ⟨[], [], true, sh ++ l ++ backs l.length⟩ := by
  rw [typeP_app, type_print l hl [] sh (by simpa using h), typeP_one]
  unfold keyP
  rw [if_neg (by omega), if_neg (by omega), if_neg (by omega), if_pos he]
  simp [eraseP]
theorem read_whole (x : Bs) (n : Int) (hn : x.length ≤ n) (h1 : 1 ≤ n) (sh : Bs) : readP n ⟨[x], [], true, sh⟩ = ⟨[], [], true, sh⟩ ∧ readS n ⟨[x], [], true, sh⟩ = x ∧ readB n ⟨[x], [], true, sh⟩ = true := by
  unfold readP readS readB
  rw [if_neg (by omega), if_neg (by omega), if_neg (by omega)]
  refine ⟨?_, ?_, rfl⟩
  · exact if_neg (by omega)
  · exact if_neg (by omega)
theorem read_none (n : Int) (line sh : Bs) (e : Bool) : readP n ⟨[], line, e, sh⟩ = ⟨[], line, e, sh⟩ ∧ readS n ⟨[], line, e, sh⟩ = [] ∧ readB n ⟨[], line, e, sh⟩ = false := by
  unfold readP readS readB
  by_cases h : n < 1 <;> simp [h]
/-- one byte read. -/
theorem read_one (s : TS) : (readB 1 s = false ∧ s.L = []) ∨ (readB 1 s = true ∧ (readS 1 s).length ≤ 1 ∧ cnt (readP 1 s).L + 1 = cnt s.L ∧ (readP 1 s).line = s.line) := by
  unfold readB readS readP
  rw [if_neg (by omega), if_neg (by omega), if_neg (by omega)]
  obtain ⟨L, line, echo, sh⟩ := s
  cases L with
  | nil => exact .inl ⟨rfl, rfl⟩
  | cons x r =>
    refine .inr ⟨rfl, ?_⟩
    simp only
    by_cases h : (1 : Int) < x.length
    · rw [if_pos h, if_pos h]
      refine ⟨by simp; omega, ?_, rfl⟩
      simp [cnt]
      omega
    · rw [if_neg h, if_neg h]
      refine ⟨by omega, ?_, rfl⟩
      simp [cnt]
      omega
end Go.Proofs.Ytojbgokbobkbdaa
