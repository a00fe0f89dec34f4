/- Arguments that are slices; the table of a law; shown. -/
import Derived.Test.YtgbmedbkonloiaaFS
import Derived.Deep.Slices
import Derived.DataReads
import Derived.Deep.Fields
import Derived.ChangeSame
namespace Go.Proofs.Ytgbmedbkonloiaa
open Go.RowKit Go.ChangeShapes Go.WideShapes Go.Deep
set_option linter.unusedVariables false
set_option linter.unusedSimpArgs false

abbrev wfI (n : Int) : Prop := -9223372036854775808 ≤ n ∧ n ≤ 9223372036854775807
theorem int_wf2 {n : Int} (h : (Lit.int .i64 n).wf = true) : -9223372036854775808 ≤ n ∧ n ≤ 9223372036854775807 := by
  simp [Lit.wf] at h
  exact h
theorem addr_plain {W : World} {a : Addr} {v0 : Value} (h0 : W.cell? a = some v0) : ∃ b off, a = ⟨b, off, none⟩ := by
  obtain ⟨b, off, spot⟩ := a
  have hs2 : spot = none := World.cell?_spot h0
  subst hs2
  exact ⟨b, off, rfl⟩
section
variable {H : Type} {enc : TypeId × Value → H} {w : World} {base : Nat} {held : Bool}
end
/-- a slice of structs that reads as these. -/
def InSt {α : Type} (mk : α → List Value) (ok : α → Prop) (c : Nat) (W : World) (p : Option Addr) (n : Nat) (zs : List α) : Prop :=
  zs.length = n ∧ ∀ (j : Nat) (z : α), zs[j]? = some z → ok z ∧ ∃ g off, p = some ⟨g, off, none⟩ ∧ ∀ (i : Nat) (v : Value), (mk z)[i]? = some v → W.cell? ⟨g, off + j * c + i, none⟩ = some v
section
variable {H : Type} {enc : TypeId × Value → H} {w : World} {base : Nat} {held : Bool}
theorem open_st {α : Type} [Inhabited α] (mk : α → List Value) (ok : α → Prop) (c : Nat) (hc0 : 0 < c) (hmk : ∀ a, (mk a).length = c) {t e : TypeId} (ht : Try.prog.underlying t = some (.slice e)) (hc : Try.prog.cellsOf e = c)
    (inv : ∀ (n : Nat) (cs : List Value) (y : DataW H × List MemPlace), DataW.trod enc Try.prog w base (fun _ => true) held n e cs = some y → ∃ z, cs = mk z ∧ ok z)
    {n : Nat} {p : Option Addr} {len cap : Nat} {x : DataW H × List MemPlace} (h : DataW.trod enc Try.prog w base (fun _ => true) held n t [.slice p len cap] = some x) :
    ∃ zs, InSt mk ok c w p len zs ∧ len ≤ maxLen := by
  rcases open_slice ht h with ⟨hcs, _⟩ | ⟨a, len', cap', m, n', D, Pl, hcs, _, hl, hm, hmm, _, hi⟩
  · cases hcs
    exact ⟨[], ⟨rfl, fun j u hj => by cases hj⟩, Nat.zero_le _⟩
  · cases hcs
    have hmm' : m = cap := hmm
    subst hmm'
    rw [hc] at hi
    have hu : ∀ i, i < m → ∃ u : α, ok u ∧ ∀ j v, (mk u)[j]? = some v → w.cell? ((a.add (i * c)).add j) = some v := by
      intro i him
      obtain ⟨cs', hc', ht'⟩ := hi i him
      obtain ⟨u, hu, hok⟩ := inv _ _ _ ht'
      obtain ⟨_, hcl, hat⟩ := World.cells?_some hc'
      refine ⟨u, hok, fun j v hj => ?_⟩
      have hj3 : j < c := by rw [← hmk u]; exact (List.getElem?_eq_some_iff.1 hj).1
      rw [hat j hj3, hu, hj]
    have hex : ∃ f : Nat → α, ∀ i, i < m → ok (f i) ∧ ∀ j v, (mk (f i))[j]? = some v → w.cell? ((a.add (i * c)).add j) = some v :=
      ⟨fun i => if h : i < m then Classical.choose (hu i h) else default, fun i h => by
        simp only [dif_pos h]; exact Classical.choose_spec (hu i h)⟩
    obtain ⟨f, hf⟩ := hex
    refine ⟨(List.range len).map f, ⟨by simp, fun j u hj => ?_⟩, by omega⟩
    have hjl : j < len := by have := (List.getElem?_eq_some_iff.1 hj).1; simpa using this
    rw [List.getElem?_map, List.getElem?_range hjl] at hj
    cases hj
    obtain ⟨v0, hv0⟩ : ∃ v, (mk (f 0))[0]? = some v := ⟨_, List.getElem?_eq_getElem (by rw [hmk]; exact hc0)⟩
    have h0 := (hf 0 (by omega)).2 0 _ hv0
    rw [Nat.zero_mul] at h0
    have hz : ∀ x : Addr, x.add 0 = x := fun x => if_pos rfl
    rw [hz, hz] at h0
    obtain ⟨b, off, rfl⟩ := addr_plain h0
    obtain ⟨hok, hj2⟩ := hf j (by omega)
    refine ⟨hok, b, off, rfl, fun i v hv => ?_⟩
    have := hj2 i v hv
    rw [Addr.add_lit, Addr.add_lit] at this
    exact this
/-- a step. -/
structure OpP where
  kind : Int
  a : Int
  b : Int
  on : Bool
instance : Inhabited OpP := ⟨⟨0, 0, 0, false⟩⟩
def OpP.cells (o : OpP) : List Value := [.int .i64 o.kind, .int .i64 o.a, .int .i64 o.b, .bool o.on]
structure OpP.Ok (o : OpP) : Prop where
  kind : I64 o.kind
  a : I64 o.a
  b : I64 o.b
theorem list4 {l : List Value} (h : l.length = 4) : ∃ a b c d, l = [a, b, c, d] := by
  match l, h with
  | [a, b, c, d], _ => exact ⟨a, b, c, d, rfl⟩
theorem opPT : Try.prog.underlying 29 = some (.struct (Try.prog.fieldsOf 29)) := by kernel_rfl
theorem cells_opP {n : Nat} {cs : List Value} {x : DataW H × List MemPlace} {spare : Nat → Bool} (h : DataW.trod enc Try.prog w base spare held n 29 cs = some x) : ∃ u : OpP, cs = u.cells ∧ u.Ok := by
  obtain ⟨xs, m, _, _, hl, hxl, hf⟩ := DataW.trod_struct opPT h
  rw [show Try.prog.cellsOf 29 = 4 by kernel_rfl] at hl
  obtain ⟨a, b, c, d, rfl⟩ := list4 hl
  have hs : (Try.prog.fieldsOf 29).size = 4 := by kernel_rfl
  have key : ∀ (i : Nat) (o : Nat) (t : TypeId), i < 4 → ((Try.prog.fieldsOf 29)[i]?.map fun g => (g.offset, g.type)) = some (o, t) → ∃ y, DataW.trod enc Try.prog w base spare held m t (([a, b, c, d].drop o).take (Try.prog.cellsOf t)) = some y := by
    intro i o t hi ht
    cases hg : (Try.prog.fieldsOf 29)[i]? with
    | none => rw [hg] at ht; cases ht
    | some g =>
      rw [hg] at ht
      cases ht
      exact ⟨xs[i]'(by omega), by rw [hf i g hg]; exact List.getElem?_eq_getElem _⟩
  have c3 : Try.prog.cellsOf 3 = 1 := by kernel_rfl
  have c4 : Try.prog.cellsOf 4 = 1 := by kernel_rfl
  obtain ⟨_, h0⟩ := key 0 0 3 (by decide) (by kernel_rfl)
  obtain ⟨_, h1⟩ := key 1 1 3 (by decide) (by kernel_rfl)
  obtain ⟨_, h2⟩ := key 2 2 3 (by decide) (by kernel_rfl)
  obtain ⟨_, h3⟩ := key 3 3 4 (by decide) (by kernel_rfl)
  rw [c4] at h3
  rw [c3] at h0 h1 h2
  obtain ⟨n0, e0, _, k0⟩ := DataW.trod_int Try.underlying3 h0
  obtain ⟨n1, e1, _, k1⟩ := DataW.trod_int Try.underlying3 h1
  obtain ⟨n2, e2, _, k2⟩ := DataW.trod_int Try.underlying3 h2
  obtain ⟨b3, e3, _⟩ := DataW.trod_bool Try.underlying4 h3
  simp at e0 e1 e2 e3
  subst e0 e1 e2 e3
  exact ⟨⟨n0, n1, n2, b3⟩, rfl, int_wf2 k0, int_wf2 k1, int_wf2 k2⟩
abbrev InOps := InSt OpP.cells OpP.Ok 4
theorem open_ops {n : Nat} {p : Option Addr} {len cap : Nat} {x : DataW H × List MemPlace} (h : DataW.trod enc Try.prog w base (fun _ => true) held n 22 [.slice p len cap] = some x) : ∃ zs, InOps w p len zs ∧ len ≤ maxLen :=
  open_st OpP.cells OpP.Ok 4 (by decide) (fun _ => rfl) Try.underlying22 (by kernel_rfl) (fun n cs y h => cells_opP h) h
end
section
variable {w0 W W' : World} {B T : Nat} {S : Nat → Prop} {s : TB} {m : Int}
/-- the table of a law that began at w0; its last number is m at most. -/
structure TL (w0 W : World) (T : Nat) (m : Int) (s : TB) : Prop where
  at_ : ∃ S, TAt W w0.heap.size T S s
  sd : Sd s
  lb : s.last ≤ m
  bel : Below w0.heap.size w0 W
theorem own_base {B B' : Nat} {e : TypeId} {v : Value} {n size : Nat} {xs : List Value} (h : W.ownsRow B e size v n xs) (hb : B' ≤ B) : W.ownsRow B' e size v n xs := by
  refine ⟨h.1, ?_⟩
  rcases h.2 with h1 | ⟨g, cap, cur, h1, h2, h3⟩
  · exact .inl h1
  · exact .inr ⟨g, cap, cur, h1, Nat.le_trans hb h2, h3⟩
theorem TAt.weak {B' : Nat} (h : TAt W B T S s) (hb : B' ≤ B) : TAt W B' T S s := by
  obtain ⟨M, nb, v, h1, hS⟩ := h
  exact ⟨M, nb, v, ⟨h1.hb, h1.map, h1.node, h1.inj, own_base h1.us hb, Nat.le_trans hb h1.base.1, Nat.le_trans hb h1.base.2.1, fun x p hp => Nat.le_trans hb (h1.base.2.2 x p hp)⟩, hS⟩
theorem TL.step {s' : TB} {m' : Int} (h : TAt W w0.heap.size T S s) (b : Below w0.heap.size w0 W) (k : Sd s') (l : s'.last ≤ m') (d : Does W w0.heap.size T S s' W') : TL w0 W' T m' s' := by
  obtain ⟨S', h1, h2⟩ := d
  exact ⟨⟨S', h1⟩, k, l, h2.1.below b (Nat.le_refl _) fun g hg => (h.lt hg).1⟩
theorem TL.fresh (h : TL w0 W T m s) (f : Fr (fun _ => False) W W') : TL w0 W' T m s := by
  obtain ⟨⟨S, h1⟩, k, l, b⟩ := h
  exact ⟨⟨S, h1.fr f (fun _ _ => id)⟩, k, l, f.below b (Nat.le_refl _) (fun _ h => h.elim)⟩
theorem tl_new (b : Below w0.heap.size w0 W) :
    Calls Try.prog 8 #[] W fun r w' => ∃ T, r = .returned (.pointer (some ⟨T, 0, none⟩)) ∧ TL w0 w' T 1 new0 :=
  (pnew_any W).mono fun r w' ⟨T, S, h1, h2, h3⟩ => ⟨T, h1, ⟨S, h2.weak b.size⟩, sd_new, by decide, h3.below b (Nat.le_refl _) (fun _ h => h.elim)⟩
theorem tl_fork (a : Int) (r : Bool) (ha : I64 a) (hm : m ≤ 1000000) (h : TL w0 W T m s) :
    Calls Try.prog 17 #[.pointer (some ⟨T, 0, none⟩), .int .i64 a, .bool r] W fun e w' => e = .returned (.tuple #[.int .i64 (forkN s a r), .int .i64 (forkE s a r)]) ∧ TL w0 w' T (m + 1) (forkT s a r) := by
  obtain ⟨⟨S, h1⟩, k, l, b⟩ := h
  exact (fork_any a r ha h1 k (Int.le_trans l hm)).mono fun e w' ⟨e1, d⟩ => ⟨e1, TL.step h1 b (sd_fork k a r) (by have := (last_fork s a r).2; omega) d⟩
theorem tl_becomes (a u : Int) (ha : I64 a) (hm : m ≤ 1000000) (h : TL w0 W T m s) :
    Calls Try.prog 20 #[.pointer (some ⟨T, 0, none⟩), .int .i64 a, .int .i64 u] W fun e w' => e = .returned (.int .i64 (becE s a u)) ∧ TL w0 w' T m (becT s a u) := by
  obtain ⟨⟨S, h1⟩, k, l, b⟩ := h
  exact (becomes_any a u ha h1 k (Int.le_trans l hm)).mono fun e w' ⟨e1, d⟩ => ⟨e1, TL.step h1 b (sd_bec k a u) (by rw [last_bec]; exact l) d⟩
theorem tl_leads (a : Int) (ha : I64 a) (h : TL w0 W T m s) :
    Calls Try.prog 21 #[.pointer (some ⟨T, 0, none⟩), .int .i64 a] W fun e w' => e = .returned (.int .i64 (leadE s a)) ∧ TL w0 w' T m (leadT s a) := by
  obtain ⟨⟨S, h1⟩, k, l, b⟩ := h
  exact (leads_any a ha h1).mono fun e w' ⟨e1, d⟩ => ⟨e1, TL.step h1 b (sd_lead k a) (by rw [last_lead]; exact l) d⟩
theorem tl_exit (a st : Int) (ha : I64 a) (h : TL w0 W T m s) :
    Calls Try.prog 18 #[.pointer (some ⟨T, 0, none⟩), .int .i64 a, .int .i64 st] W fun e w' => e = .returned (.int .i64 (exitE s a)) ∧ TL w0 w' T m (exitT s a st) := by
  obtain ⟨⟨S, h1⟩, k, l, b⟩ := h
  exact (exit_any a st ha h1 k).mono fun e w' ⟨e1, d⟩ => ⟨e1, TL.step h1 b (sd_exit k a st) (by rw [last_exit]; exact l) d⟩
theorem tl_wait (a c : Int) (ha : I64 a) (hm : m ≤ 1000000) (h : TL w0 W T m s) :
    Calls Try.prog 19 #[.pointer (some ⟨T, 0, none⟩), .int .i64 a, .int .i64 c] W fun e w' => e = .returned (w3V (waitV s a c)) ∧ TL w0 w' T m (waitT s a c) := by
  obtain ⟨⟨S, h1⟩, k, l, b⟩ := h
  exact (wait_any a c ha h1 k (Int.le_trans l hm)).mono fun e w' ⟨e1, d⟩ => ⟨e1, TL.step h1 b (sd_wait k a c) (by rw [last_wait]; exact l) d⟩
theorem tl_count (u : Int) (hm : m ≤ 1000000) (h : TL w0 W T m s) :
    Calls Try.prog 13 #[.pointer (some ⟨T, 0, none⟩), .int .i64 u] W fun e w' => e = .returned (.int .i64 (cntP s.L u : Nat)) ∧ TL w0 w' T m s ∧ Below W.heap.size W w' := by
  obtain ⟨⟨S, M, nb, v, h1, hS⟩, k, l, b⟩ := h
  exact (count_any u h1 k.asc (by have := k.len; omega)).mono fun e w' ⟨e1, f⟩ => ⟨e1, TL.fresh ⟨⟨S, M, nb, v, h1, hS⟩, k, l, b⟩ f, ⟨f.os, f.tape, f.output, f.size, fun i hi => f.block i hi id⟩⟩
theorem tl_get (x : Int) (hx : I64 x) (h : TL w0 W T m s) :
    Calls Try.prog 11 #[.pointer (some ⟨T, 0, none⟩), .int .i64 x] W fun e w' => e = .returned (getV s.L x) ∧ TL w0 w' T m s ∧ Below W.heap.size W w' := by
  obtain ⟨⟨S, M, nb, v, h1, hS⟩, k, l, b⟩ := h
  exact (get_any x hx h1).mono fun e w' ⟨e1, f⟩ => ⟨e1, TL.fresh ⟨⟨S, M, nb, v, h1, hS⟩, k, l, b⟩ f, ⟨f.os, f.tape, f.output, f.size, fun i hi => f.block i hi id⟩⟩
theorem tl_known (h : TL w0 W T m s) :
    Calls Try.prog 15 #[.pointer (some ⟨T, 0, none⟩)] W fun e w' => e = .returned (.int .i64 s.users.length) ∧ W = w' := by
  obtain ⟨⟨S, M, nb, v, h1, hS⟩, k, l, b⟩ := h
  exact known_any h1
theorem tl_all (hm : m ≤ 1000000) (h : TL w0 W T m s) :
    Calls Try.prog 16 #[.pointer (some ⟨T, 0, none⟩)] W fun e w' => ∃ v', e = .returned v' ∧ w'.ownsRow W.heap.size 32 7 v' s.L.length (rowsC s.L) ∧ TL w0 w' T m s ∧ Below W.heap.size W w' := by
  obtain ⟨⟨S, M, nb, v, h1, hS⟩, k, l, b⟩ := h
  exact (all_any h1 k.asc k.rng k.len (by omega)).mono fun e w' ⟨v', e1, o, f⟩ => ⟨v', e1, o, TL.fresh ⟨⟨S, M, nb, v, h1, hS⟩, k, l, b⟩ f, ⟨f.os, f.tape, f.output, f.size, fun i hi => f.block i hi id⟩⟩
def st0 : TB := becT (forkT new0 1 true) 2 5
def stK : Nat → TB
  | 0 => st0
  | k + 1 => forkT (stK k) 2 false
theorem stK_ok : ∀ k : Fin 5, forkE (stK k.1) 2 false = 0 := by decide +kernel
theorem stK_end : forkE (stK 5) 2 false = 13 := by decide +kernel
theorem st_a : forkE new0 1 true = 0 ∧ forkN new0 1 true = 2 := by decide +kernel
theorem st_b : becE (forkT new0 1 true) 2 5 = 0 := by decide +kernel
theorem st_w : waitV (exitT (stK 5) 3 7) 2 0 = (3, 7, 0) := by decide +kernel
theorem st_f : forkE (waitT (exitT (stK 5) 3 7) 2 0) 2 false = 0 := by decide +kernel
theorem st_c : cntP (forkT (waitT (exitT (stK 5) 3 7) 2 0) 2 false).L 5 = 6 := by decide +kernel
end
end Go.Proofs.Ytgbmedbkonloiaa
