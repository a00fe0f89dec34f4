/- Arguments that are slices of ints; plain facts of LexSigns. -/
import Derived.Test.YtmkcenobghaoiaaLT
import Derived.Test.YtmkcenobghaoiaaLP
import Derived.Deep.Slices
import Derived.DataReads
import Derived.Deep.Fields
import Derived.ChangeSame
namespace Go.Proofs.Ytmkcenobghaoiaa
open Go.RowKit Go.ChangeShapes Go.WideShapes Go.Deep
set_option linter.unusedVariables false
set_option linter.unusedSimpArgs false
abbrev wfI (n : Int) : Prop := -9223372036854775808 ≤ n ∧ n ≤ 9223372036854775807
theorem int_wf2 {n : Int} (h : (Lit.int .i64 n).wf = true) : -9223372036854775808 ≤ n ∧ n ≤ 9223372036854775807 := by
  simp [Lit.wf] at h
  exact h
/-- a slice that reads as these. -/
def InRow {α : Type} (mk : α → Value) (ok : α → Prop) (W : World) (p : Option Addr) (n : Nat) (zs : List α) : Prop :=
  zs.length = n ∧ ∀ (j : Nat) (z : α), zs[j]? = some z → ∃ g off, p = some ⟨g, off, none⟩ ∧ W.cell? ⟨g, off + j, none⟩ = some (mk z) ∧ ok z
abbrev InStrs := InRow Value.string (fun s : ByteArray => s.size ≤ maxLen)
abbrev InInts := InRow (Value.int .i64) wfI
theorem addr_plain {W : World} {a : Addr} {v0 : Value} (h0 : W.cell? a = some v0) : ∃ b off, a = ⟨b, off, none⟩ := by
  obtain ⟨b, off, spot⟩ := a
  have hs2 : spot = none := World.cell?_spot h0
  subst hs2
  exact ⟨b, off, rfl⟩
section
variable {H : Type} {enc : TypeId × Value → H} {w : World} {base : Nat} {held : Bool}
theorem open_row {α : Type} [Inhabited α] (mk : α → Value) (ok : α → Prop) {t e : TypeId} (ht : Try.prog.underlying t = some (.slice e)) (hc : Try.prog.cellsOf e = 1)
    (inv : ∀ (n : Nat) (cs : List Value) (y : DataW H × List MemPlace), DataW.trod enc Try.prog w base (fun _ => true) held n e cs = some y → ∃ z, cs = [mk z] ∧ ok z)
    {n : Nat} {p : Option Addr} {len cap : Nat} {x : DataW H × List MemPlace} (h : DataW.trod enc Try.prog w base (fun _ => true) held n t [.slice p len cap] = some x) :
    ∃ zs, InRow mk ok w p len zs ∧ len ≤ maxLen := by
  rcases open_slice ht h with ⟨hcs, _⟩ | ⟨a, len', cap', m, n', D, Pl, hcs, _, hl, hm, hmm, _, hi⟩
  · cases hcs
    exact ⟨[], ⟨rfl, fun j u hj => by cases hj⟩, Nat.zero_le _⟩
  · cases hcs
    have hmm' : m = cap := hmm
    subst hmm'
    rw [hc] at hi
    have hu : ∀ i, i < m → ∃ u : α, w.cell? (a.add (i * 1)) = some (mk u) ∧ ok u := by
      intro i him
      obtain ⟨cs', hc', ht'⟩ := hi i him
      obtain ⟨u, hu, hok⟩ := inv _ _ _ ht'
      obtain ⟨_, hcl, hat⟩ := World.cells?_some hc'
      refine ⟨u, ?_, hok⟩
      have := hat 0 (by decide)
      rw [hu] at this
      have hz : ∀ x : Addr, x.add 0 = x := fun x => if_pos rfl
      rw [hz] at this
      exact this
    have hex : ∃ f : Nat → α, ∀ i, i < m → w.cell? (a.add (i * 1)) = some (mk (f i)) ∧ ok (f i) :=
      ⟨fun i => if h : i < m then Classical.choose (hu i h) else default, fun i h => by
        simp only [dif_pos h]; exact Classical.choose_spec (hu i h)⟩
    obtain ⟨f, hf⟩ := hex
    refine ⟨(List.range len).map f, ⟨by simp, fun j u hj => ?_⟩, by omega⟩
    have hjl : j < len := by have := (List.getElem?_eq_some_iff.1 hj).1; simpa using this
    rw [List.getElem?_map, List.getElem?_range hjl] at hj
    cases hj
    have h0 := (hf 0 (by omega)).1
    rw [Nat.zero_mul] at h0
    have hz : ∀ x : Addr, x.add 0 = x := fun x => if_pos rfl
    rw [hz] at h0
    obtain ⟨b, off, rfl⟩ := addr_plain h0
    have hj2 := hf j (by omega)
    rw [Nat.mul_one, Addr.add_lit] at hj2
    exact ⟨b, off, rfl, hj2⟩
theorem open_intz {n : Nat} {p : Option Addr} {len cap : Nat} {x : DataW H × List MemPlace} (h : DataW.trod enc Try.prog w base (fun _ => true) held n 33 [.slice p len cap] = some x) : ∃ zs, InInts w p len zs ∧ len ≤ maxLen :=
  open_row (Value.int .i64) _ Try.underlying33 (by kernel_rfl) (fun n cs y h => by obtain ⟨s, h1, _, h2⟩ := DataW.trod_int Try.underlying3 h; exact ⟨s, h1, int_wf2 h2⟩) h
end
theorem mask15 (m : Int) : ∃ k : Nat, k ≤ 15 ∧ bits .and .i64 m 15 = (k : Int) := by
  have ho : ∀ z : Int, (BitVec.ofInt 64 z).toNat = (z % 18446744073709551616).toNat := fun z => by rw [BitVec.toNat_ofInt]; rfl
  have h : (m % 18446744073709551616).toNat &&& 15 ≤ 15 := Nat.and_le_right
  refine ⟨(m % 18446744073709551616).toNat &&& 15, h, ?_⟩
  show IntKind.i64.wrap ((BitVec.ofInt 64 m &&& BitVec.ofInt 64 (15 : Int)).toNat : Int) = _
  rw [BitVec.toNat_and, ho, ho, show ((15 : Int) % 18446744073709551616).toNat = 15 from rfl]
  rw [IntKind.wrap_i64]; omega
theorem mask15b (k : Nat) (h : k ≤ 15) : bits .and .i64 (k : Int) 15 = (k : Int) := by
  match k, h with
  | 0, _ => decide
  | 1, _ => decide
  | 2, _ => decide
  | 3, _ => decide
  | 4, _ => decide
  | 5, _ => decide
  | 6, _ => decide
  | 7, _ => decide
  | 8, _ => decide
  | 9, _ => decide
  | 10, _ => decide
  | 11, _ => decide
  | 12, _ => decide
  | 13, _ => decide
  | 14, _ => decide
  | 15, _ => decide
  | n + 16, h => exact absurd h (by omega)
/-- which sign a number tells. -/
def ix (z : Int) : Nat := (bits .and .i64 z 15).toNat
theorem ix_eq (z : Int) : bits .and .i64 z 15 = (ix z : Int) ∧ ix z ≤ 15 := by
  obtain ⟨k, hk, he⟩ := mask15 z
  unfold ix
  rw [he]
  exact ⟨by simp, by simpa using hk⟩
theorem ix_two (z : Int) : bits .and .i64 (bits .and .i64 z 15) 15 = (ix z : Int) := by
  rw [(ix_eq z).1]; exact mask15b _ (ix_eq z).2
def pickS (z : Int) : Bs := SG.getD (ix z) []
theorem pick_mem (z : Int) : pickS z ∈ SG := by
  have h := (ix_eq z).2
  unfold pickS
  rw [List.getD_eq_getElem?_getD, List.getElem?_eq_getElem (show ix z < SG.length by show ix z < 16; omega)]
  exact List.getElem_mem _
def textL (q : Bool) (ps : List Bs) : Bs := ps.flatMap (fun p => p ++ 32 :: (if q then [119, 32] else []))
def wantL (q : Bool) (ps : List Bs) : List (Int × Bs) := ps.flatMap (fun p => (2, p) :: (if q then [(1, [119])] else []))
theorem sg_sign (p rest : Bs) (h : p ∈ SG) : sg (p ++ 32 :: rest) = p.length ∧ ∃ c r, p = c :: r ∧ ¬ (c = 32 ∨ c = 9) ∧ ¬ c = 92 ∧ ¬ c = 35 := by
  unfold SG at h
  simp only [List.mem_cons, List.not_mem_nil, or_false] at h
  rcases h with rfl | rfl | rfl | rfl | rfl | rfl | rfl | rfl | rfl | rfl | rfl | rfl | rfl | rfl | rfl | rfl <;>
    exact ⟨by simp [sg], _, _, rfl, by decide, by decide, by decide⟩
theorem getD_head {l : Bs} {i : Nat} {c : UInt8} {r : Bs} (h : l.drop i = c :: r) : l.getD i 0 = c ∧ i < l.length ∧ l.drop (i + 1) = r := by
  have h1 : l[i]? = some c := by
    have := congrArg List.head? h
    rwa [List.head?_drop] at this
  refine ⟨by rw [List.getD_eq_getElem?_getD, h1]; rfl, (List.getElem?_eq_some_iff.1 h1).1, ?_⟩
  rw [← List.drop_drop, h]; rfl
theorem allL_blank {l : Bs} {n i : Nat} {out : List Tk} {r : Bs} (h : l.drop i = 32 :: r) : allL l (n + 1) i out = allL l n (i + 1) out := by
  obtain ⟨h1, h2, _⟩ := getD_head h
  rw [allL, if_neg (by omega), if_pos (.inl h1)]
theorem allL_sign {l : Bs} {n i : Nat} {out : List Tk} {p r : Bs} (h : l.drop i = p ++ 32 :: r) (hp : p ∈ SG) (ho : out.length < 400) : allL l (n + 1) i out = allL l n (i + p.length) (out ++ [⟨2, p, i⟩]) := by
  obtain ⟨hs, c, q, rfl, h1, h2, h3⟩ := sg_sign p r hp
  obtain ⟨g1, g2, _⟩ := getD_head (show l.drop i = c :: (q ++ 32 :: r) from h)
  rw [allL, if_neg (by omega), if_neg (by rw [g1]; exact h1), if_neg (by rw [g1]; exact fun h => h2 h.1), if_neg (by rw [g1]; exact h3), if_neg (by omega), h, hs, if_pos (by simp)]
  unfold mid
  rw [h, Nat.add_sub_cancel_left, List.take_left]
theorem allL_w {l : Bs} {n i : Nat} {out : List Tk} {r : Bs} (h : l.drop i = 119 :: 32 :: r) (ho : out.length < 400) : allL l (n + 1) i out = allL l n (i + 1) (out ++ [⟨1, [119], i⟩]) := by
  obtain ⟨g1, g2, g3⟩ := getD_head h
  obtain ⟨k1, k2, _⟩ := getD_head g3
  have hsg : sg (119 :: 32 :: r) = 0 := by simp [sg]
  have hw : wordL l l.length i = .ok (i + 1) := by
    obtain ⟨m, hm⟩ : ∃ m, l.length = m + 2 := ⟨l.length - 2, by omega⟩
    rw [hm, wordL, if_neg (by omega), if_neg (by rw [g1]; decide), h, show kd false (119 :: 32 :: r) = none by simp [kd]]
    show wordL l (m + 1) (i + 1) = _
    rw [wordL, if_neg (by omega), if_pos (by rw [k1]; decide)]
  rw [allL, if_neg (by omega), if_neg (by rw [g1]; decide), if_neg (by rw [g1]; exact fun h => absurd h.1 (by decide)), if_neg (by rw [g1]; decide), if_neg (by omega), h, hsg, if_neg (by decide), hw]
  have hk : wkind l i (i + 1) = 1 := by
    unfold wkind
    rw [if_neg (fun h => by rw [g1] at h; exact absurd h.2.1 (by decide))]
  have hm : mid l i (i + 1) = [119] := by unfold mid; rw [h, Nat.add_sub_cancel_left]; rfl
  show allL l n (i + 1) (out ++ [⟨wkind l i (i + 1), mid l i (i + 1), i⟩]) = _
  rw [hk, hm]
theorem allL_text (q : Bool) (l : Bs) : ∀ (ps : List Bs) (n i : Nat) (out : List Tk), (∀ p ∈ ps, p ∈ SG) → l.drop i = textL q ps → l.length - i ≤ n → out.length + 2 * ps.length ≤ 400 →
    ∃ toks, allL l n i out = .ok (out ++ toks ++ [⟨4, [], l.length⟩]) ∧ toks.map (fun t => (t.kind, t.text)) = wantL q ps := by
  intro ps
  induction ps with
  | nil =>
    intro n i out _ hd hn _
    have hle : l.length ≤ i := List.drop_eq_nil_iff.1 hd
    refine ⟨[], ?_, rfl⟩
    rw [List.append_nil]
    cases n with
    | zero => rw [allL]
    | succ n => rw [allL, if_pos hle]
  | cons p ps ih =>
    intro n i out hp hd hn ho
    simp only [List.length_cons] at ho
    have hpm := hp p (by simp)
    have hcons : textL q (p :: ps) = p ++ 32 :: ((if q then [119, 32] else []) ++ textL q ps) := by simp [textL]
    rw [hcons] at hd
    have hlen := congrArg List.length hd
    simp only [List.length_drop, List.length_append, List.length_cons] at hlen
    have hpl : 0 < p.length := by obtain ⟨_, c, r, rfl, _⟩ := sg_sign p [] hpm; simp
    have hd2 : l.drop (i + p.length) = 32 :: ((if q then [119, 32] else []) ++ textL q ps) := by rw [← List.drop_drop, hd, List.drop_left]
    have hd3 := (getD_head hd2).2.2
    cases q with
    | false =>
      obtain ⟨n, rfl⟩ : ∃ m, n = m + 2 := ⟨n - 2, by omega⟩
      obtain ⟨toks, h1, h2⟩ := ih n (i + p.length + 1) (out ++ [⟨2, p, i⟩]) (fun p' h => hp p' (by simp [h])) hd3 (by simp at hlen; omega) (by rw [List.length_append]; simp; omega)
      refine ⟨⟨2, p, i⟩ :: toks, ?_, ?_⟩
      · rw [allL_sign hd hpm (by omega), allL_blank hd2, h1]; simp
      · rw [List.map_cons, h2]; simp [wantL]
    | true =>
      have hd4 : l.drop (i + p.length + 1) = 119 :: 32 :: textL true ps := hd3
      have hd5 := (getD_head hd4).2.2
      have hd6 := (getD_head hd5).2.2
      obtain ⟨n, rfl⟩ : ∃ m, n = m + 4 := ⟨n - 4, by simp at hlen; omega⟩
      obtain ⟨toks, h1, h2⟩ := ih n (i + p.length + 1 + 1 + 1) (out ++ [⟨2, p, i⟩] ++ [⟨1, [119], i + p.length + 1⟩]) (fun p' h => hp p' (by simp [h])) hd6 (by simp at hlen; omega) (by simp; omega)
      refine ⟨⟨2, p, i⟩ :: ⟨1, [119], i + p.length + 1⟩ :: toks, ?_, ?_⟩
      · rw [allL_sign hd hpm (by omega), allL_blank hd2, allL_w hd4 (by simp; omega), allL_blank hd5, h1]; simp
      · rw [List.map_cons, List.map_cons, h2]; simp [wantL]
theorem text_len (q : Bool) (ps : List Bs) (h : ∀ p ∈ ps, p ∈ SG) : (textL q ps).length ≤ 5 * ps.length := by
  induction ps with
  | nil => exact Nat.zero_le _
  | cons p ps ih =>
    have hp : p.length ≤ 2 := by
      have := h p (by simp)
      unfold SG at this
      simp only [List.mem_cons, List.not_mem_nil, or_false] at this
      rcases this with rfl | rfl | rfl | rfl | rfl | rfl | rfl | rfl | rfl | rfl | rfl | rfl | rfl | rfl | rfl | rfl <;> decide
    have := ih (fun p' h' => h p' (by simp [h']))
    have hcons : textL q (p :: ps) = p ++ 32 :: ((if q then [119, 32] else []) ++ textL q ps) := by simp [textL]
    rw [hcons]
    simp only [List.length_append, List.length_cons]
    cases q <;> simp <;> omega
theorem allA_text (q : Bool) (ps : List Bs) (h : ∀ p ∈ ps, p ∈ SG) (hl : ps.length ≤ 100) :
    ∃ toks e, allA (textL q ps) = .ok (toks ++ [e]) ∧ toks.map (fun t => (t.kind, t.text)) = wantL q ps := by
  have hlen := text_len q ps h
  obtain ⟨toks, h1, h2⟩ := allL_text q (textL q ps) ps (textL q ps).length 0 [] h rfl (by omega) (by simp; omega)
  refine ⟨toks, ⟨4, [], (textL q ps).length⟩, ?_, h2⟩
  unfold allA
  rw [if_neg (by omega), h1]
  rfl
theorem want_len (q : Bool) (ps : List Bs) : (wantL q ps).length = if q then 2 * ps.length else ps.length := by
  induction ps with
  | nil => cases q <;> rfl
  | cons p ps ih =>
    have hc : wantL q (p :: ps) = (2, p) :: ((if q then [(1, [119])] else []) ++ wantL q ps) := by simp [wantL]
    rw [hc]
    simp only [List.length_cons, List.length_append, ih]
    cases q <;> simp <;> omega
theorem want_plain (ps : List Bs) (i : Nat) (h : i < ps.length) : (wantL false ps)[i]? = some (2, ps[i]) := by
  have : ∀ ps : List Bs, wantL false ps = ps.map (fun p => ((2 : Int), p)) := by
    intro ps
    induction ps with
    | nil => rfl
    | cons p ps ih => rw [List.map_cons, ← ih]; simp [wantL]
  rw [this, List.getElem?_map, List.getElem?_eq_getElem h]; rfl
theorem want_words (ps : List Bs) : ∀ (i : Nat) (h : i < ps.length), (wantL true ps)[2 * i]? = some (2, ps[i]) ∧ (wantL true ps)[2 * i + 1]? = some (1, [119]) := by
  induction ps with
  | nil => intro i h; simp at h
  | cons p ps ih =>
    intro i h
    have hc : wantL true (p :: ps) = (2, p) :: (1, [119]) :: wantL true ps := by simp [wantL]
    rw [hc]
    cases i with
    | zero => exact ⟨rfl, rfl⟩
    | succ i =>
      have := ih i (by simpa using h)
      rw [show 2 * (i + 1) = 2 * i + 1 + 1 by omega]
      exact this
end Go.Proofs.Ytmkcenobghaoiaa
