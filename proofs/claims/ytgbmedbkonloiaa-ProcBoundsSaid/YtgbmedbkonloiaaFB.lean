/- The program's table in memory: its struct, the map of pointers, the processes, the row of known users. -/
import Derived.Test.YtgbmedbkonloiaaFA
import Derived.WalkKit
import Derived.WalkSpells
import Derived.WalkLawsBesides
import Derived.Below
import Derived.Deep.OwnRows
import Derived.Deep.QuietTactic
import Derived.Deep.AppendLies
import Derived.BigQuiet
import Derived.BigRegion
import Derived.StillTail
import Derived.StillTactics
import Derived.StillTailTactics
import Derived.Lib.Hide
import Derived.Lib.FrozenHead
import Derived.Sort.EncStr
import Derived.Laws.OwnMore
import Derived.Laws.Rows
import Derived.Maps.RangeWalk
namespace Go.Proofs.Ytgbmedbkonloiaa
open Go.RowKit Go.Maps
set_option linter.unusedVariables false
set_option linter.unusedSimpArgs false

theorem ret_bool {a b : Bool} (h : a = b) : Ending.returned (.bool a) = .returned (.bool b) := by rw [h]
theorem ret_int {k : IntKind} {a b : Int} (h : a = b) : Ending.returned (.int k a) = .returned (.int k b) := by rw [h]
theorem ret_val {a b : Value} (h : a = b) : Ending.returned a = .returned b := by rw [h]
theorem cell_lt {w : World} {g j : Nat} {v : Value} (hc : w.cell? ⟨g, j, none⟩ = some v) : g < w.heap.size := by
  unfold World.cell? at hc
  cases ho : w.heap[g]? with
  | none => simp [ho] at hc
  | some o => exact (Array.getElem?_eq_some_iff.1 ho).1
/-- the world has changed in these blocks alone, and has new ones. -/
structure Fr (S : Nat → Prop) (w w' : World) : Prop where
  os : w'.os = w.os
  tape : w'.tape = w.tape
  output : w'.output = w.output
  size : w.heap.size ≤ w'.heap.size
  block : ∀ k, k < w.heap.size → ¬ S k → w'.heap[k]? = w.heap[k]?
theorem Fr.refl (S : Nat → Prop) (w : World) : Fr S w w := ⟨rfl, rfl, rfl, Nat.le_refl _, fun _ _ _ => rfl⟩
theorem Fr.trans {S : Nat → Prop} {a b c : World} (h : Fr S a b) (k : Fr S b c) : Fr S a c :=
  ⟨k.os.trans h.os, k.tape.trans h.tape, k.output.trans h.output, Nat.le_trans h.size k.size, fun i hi hn => (k.block i (Nat.lt_of_lt_of_le hi h.size) hn).trans (h.block i hi hn)⟩
theorem Fr.mono {S S' : Nat → Prop} {a b : World} (h : Fr S a b) (hs : ∀ k, k < a.heap.size → S k → S' k) : Fr S' a b :=
  ⟨h.os, h.tape, h.output, h.size, fun i hi hn => h.block i hi fun k => hn (hs i hi k)⟩
theorem Fr.drewN {S : Nat → Prop} {a b : World} (h : Fr S a b) (n : Nat) : Fr S a (b.drewN n) := ⟨h.os, h.tape, h.output, h.size, h.block⟩
theorem Fr.drew {S : Nat → Prop} {a b : World} (h : Fr S a b) : Fr S a b.drew := ⟨h.os, h.tape, h.output, h.size, h.block⟩
theorem Fr.alloc {S : Nat → Prop} {a b : World} (h : Fr S a b) (o : Obj) : Fr S a (b.alloc o) :=
  ⟨h.os, h.tape, h.output, Nat.le_trans h.size (by simp), fun i hi hn => (Below.heap_alloc b o i (Nat.lt_of_lt_of_le hi h.size)).trans (h.block i hi hn)⟩
theorem Fr.setCell {S : Nat → Prop} {a b : World} (h : Fr S a b) {p : Addr} (hp : S p.block ∨ a.heap.size ≤ p.block) (u : Value) : Fr S a (b.setCell p u) :=
  ⟨h.os, h.tape, h.output, by simpa [World.setCell] using h.size, fun i hi hn => (Below.heap_setCell b p u i (by
    rintro rfl
    rcases hp with hp | hp
    · exact hn hp
    · omega)).trans (h.block i hi hn)⟩
theorem Fr.of_below {S : Nat → Prop} {a b : World} (h : Below a.heap.size a b) : Fr S a b := ⟨h.os, h.tape, h.output, h.size, fun i hi _ => h.block i hi⟩
theorem Fr.cell {S : Nat → Prop} {a b : World} (h : Fr S a b) {g o : Nat} {v : Value} (hc : a.cell? ⟨g, o, none⟩ = some v) (hn : ¬ S g) : b.cell? ⟨g, o, none⟩ = some v :=
  (World.cell?_of_block (h.block g (cell_lt hc) hn)).trans hc
theorem Fr.setCells {S : Nat → Prop} {a : World} {g : Nat} (hp : S g ∨ a.heap.size ≤ g) : ∀ (vs : List Value) (o : Nat) (b : World), Fr S a b → Fr S a (b.setCells g o vs)
  | [], _, _, h => h
  | v :: r, o, b, h => Fr.setCells hp r (o + 1) _ (h.setCell (p := ⟨g, o, none⟩) hp v)
theorem Fr.below {S : Nat → Prop} {B : Nat} {w0 a b : World} (h : Below B w0 a) (hB : B ≤ w0.heap.size) (k : Fr S a b) (hs : ∀ g, S g → B ≤ g) : Below B w0 b :=
  h.trans ⟨k.os, k.tape, k.output, k.size, fun i hi => k.block i (by have := h.size; omega) (fun e => by have := hs i e; omega)⟩


theorem Fr.one (w : World) (P o : Nat) (u : Value) : Fr (· = P) w (w.setCell ⟨P, o, none⟩ u) := (Fr.refl _ _).setCell (p := ⟨P, o, none⟩) (.inl (by simp)) u
theorem Fr.grown {a b : World} {row : Option Nat} (k : a.grownBy b row) : Fr (fun i => row = some i) a b :=
  ⟨k.os, k.tape, k.output, k.size, fun i hi hn => k.block i hi (fun e => hn e.symm)⟩
theorem heap_set {W : World} {T : Nat} {cs : Array Value} {t : TypeId} {fr : Nat × Nat} (hb : W.heap[T]? = some (.cells cs t fr)) (i : Nat) (u : Value) : (W.setCell ⟨T, i, none⟩ u).heap[T]? = some (.cells (cs.setIfInBounds i u) t fr) := by
  simp [World.setCell, Array.getElem?_modify, hb]
theorem heap_lt {W : World} {T : Nat} {o : Obj} (hb : W.heap[T]? = some o) : T < W.heap.size := (Array.getElem?_eq_some_iff.1 hb).1
section
variable {W W' : World} {B n : Nat} {e : TypeId} {v : Value} {xs : List Value}
theorem own_type (h : W.ownsRow B e 1 v n xs) {k : Nat} (hk : v.ownBlock = some k) : B ≤ k ∧ k < W.heap.size ∧ ∃ cur fz, W.heap[k]? = some (.cells cur e fz) := by
  rcases h.2 with ⟨rfl, _⟩ | ⟨g, cap, cur, rfl, hb, hg, _⟩
  · simp [Value.ownBlock] at hk
  · simp [Value.ownBlock] at hk
    subst hk
    exact ⟨hb, heap_lt hg, cur, _, hg⟩
theorem ownF_type (h : W.ownsRowF B e 1 v n xs) {k : Nat} (hk : v.ownBlock = some k) : B ≤ k ∧ k < W.heap.size ∧ ∃ cur fz, W.heap[k]? = some (.cells cur e fz) := by
  rcases h.2 with ⟨rfl, _⟩ | ⟨g, cap, cur, fz, rfl, hb, hg, _⟩
  · simp [Value.ownBlock] at hk
  · simp [Value.ownBlock] at hk
    subst hk
    exact ⟨hb, heap_lt hg, cur, _, hg⟩
theorem own_fr {S : Nat → Prop} (h : W.ownsRow B e 1 v n xs) (f : Fr S W W') (hs : ∀ k, v.ownBlock = some k → ¬ S k) : W'.ownsRow B e 1 v n xs := by
  refine ⟨h.1, ?_⟩
  rcases h.2 with hn | ⟨g, cap, cur, rfl, hb, hg, rest⟩
  · exact .inl hn
  · exact .inr ⟨g, cap, cur, rfl, hb, (f.block g (heap_lt hg) (hs g rfl)).trans hg, rest⟩
theorem ownF_fr {S : Nat → Prop} (h : W.ownsRowF B e 1 v n xs) (f : Fr S W W') (hs : ∀ k, v.ownBlock = some k → ¬ S k) : W'.ownsRowF B e 1 v n xs := by
  refine ⟨h.1, ?_⟩
  rcases h.2 with hn | ⟨g, cap, cur, fz, rfl, hb, hg, rest⟩
  · exact .inl hn
  · exact .inr ⟨g, cap, cur, fz, rfl, hb, (f.block g (heap_lt hg) (hs g rfl)).trans hg, rest⟩
theorem own_form (h : W.ownsRow B e 1 v n xs) : ∃ ao cap, v = .slice ao n cap ∧ n ≤ cap := by
  rcases h.2 with ⟨rfl, rfl⟩ | ⟨g, cap, cur, rfl, _, _, hc, _⟩
  · exact ⟨_, _, rfl, Nat.le_refl _⟩
  · exact ⟨_, _, rfl, hc⟩
theorem ownF_form (h : W.ownsRowF B e 1 v n xs) : ∃ ao cap, v = .slice ao n cap := by
  rcases h.2 with ⟨rfl, rfl⟩ | ⟨g, cap, cur, fz, rfl, _⟩
  · exact ⟨_, _, rfl⟩
  · exact ⟨_, _, rfl⟩
end
theorem types_ne {W : World} {k : Nat} {a b : Array Value} {s t : TypeId} {f g : Nat × Nat} (h1 : W.heap[k]? = some (.cells a s f)) (h2 : W.heap[k]? = some (.cells b t g)) (h : s ≠ t) : False := by
  rw [h1] at h2
  cases h2
  exact h rfl
theorem own_none (W : World) (B : Nat) (e : TypeId) : W.ownsRow B e 1 (.slice none 0 0) 0 [] := World.ownsRow_nil W B e 1
/-- a step on the blocks S, which are S' then. -/
def Step (S S' : Nat → Prop) (W W' : World) : Prop := Fr S W W' ∧ ∀ k, S' k → S k ∨ W.heap.size ≤ k
theorem Step.refl (S : Nat → Prop) (W : World) : Step S S W W := ⟨Fr.refl _ _, fun _ h => .inl h⟩
theorem Step.trans {S S1 S2 : Nat → Prop} {W W1 W2 : World} (h : Step S S1 W W1) (k : Step S1 S2 W1 W2) : Step S S2 W W2 := by
  refine ⟨⟨k.1.os.trans h.1.os, k.1.tape.trans h.1.tape, k.1.output.trans h.1.output, Nat.le_trans h.1.size k.1.size, fun i hi hn => (k.1.block i (Nat.lt_of_lt_of_le hi h.1.size) ?_).trans (h.1.block i hi hn)⟩, fun i hi => ?_⟩
  · intro h1
    rcases h.2 i h1 with h2 | h2
    · exact hn h2
    · omega
  · rcases k.2 i hi with h1 | h1
    · exact h.2 i h1
    · exact .inr (Nat.le_trans h.1.size h1)
theorem Step.fresh {S S1 : Nat → Prop} {W W1 W2 : World} (h : Step S S1 W W1) (k : Fr (fun _ => False) W1 W2) : Step S S1 W W2 :=
  h.trans ⟨k.mono fun _ _ h => h.elim, fun _ h => .inl h⟩

theorem undInt : Try.prog.underlying 3 = some (.int .i64) := by kernel_rfl
theorem undMap : Try.prog.underlying 56 = some (.map 3 60) := by kernel_rfl
theorem zeroPtr (w : World) : (zeroValue 60).run Try.prog w = .ok (.pointer none) w := by kernel_rfl
theorem intLaw : Go.Maps.Keyed Try.prog 3 := int_keyed undInt
def I64 (x : Int) : Prop := -9223372036854775808 ≤ x ∧ x ≤ 9223372036854775807
theorem I64.wf {x : Int} (h : I64 x) : (Lit.int .i64 x).wf = true := WalkArith.wf_i64 h
/-- how a pointer to a process reads as a map's element: its block. -/
def ptrR : Value → Option (DataW Unit × List MemPlace)
  | .pointer (some ⟨b, 0, none⟩) => some (.lit (.int .i64 b), [])
  | .pointer none => some (.lit (.bool false), [])
  | _ => none
theorem ptrR_inv {v : Value} {y : DataW Unit × List MemPlace} (h : ptrR v = some y) : ∃ c : Option Nat, v = .pointer (c.map fun b => ⟨b, 0, none⟩) ∧ y = (match c with | some b => .lit (.int .i64 b) | none => .lit (.bool false), []) := by
  unfold ptrR at h
  split at h
  · rename_i b; cases h; exact ⟨some b, rfl, rfl⟩
  · cases h; exact ⟨none, rfl, rfl⟩
  · cases h
/-- a map's datum holds just these processes' pointers. -/
structure Ag (D : DataW Unit) (L : List Pr) (nb : Int → Nat) : Prop where
  has : ∀ x, Maps.has D (.int .i64 x) = (atP L x).isSome
  val : ∀ (x : Int) (p : Pr), atP L x = some p → ∀ zd, D.atKey (.int .i64 x) zd = .lit (.int .i64 (nb x))
  size : Maps.size D = L.length
def PMap (W : World) (b : Nat) (L : List Pr) (nb : Int → Nat) : Prop := ∃ D : DataW Unit, W.ownsMap Try.prog 3 ptrR b L.length D ∧ Ag D L nb
theorem PMap.lt {W : World} {b : Nat} {L : List Pr} {nb : Int → Nat} (h : PMap W b L nb) : b < W.heap.size := by
  obtain ⟨D, h1, _⟩ := h
  exact h1.lt
theorem PMap.of_block {W W' : World} {b : Nat} {L : List Pr} {nb : Int → Nat} (h : PMap W b L nb) (e : W'.heap[b]? = W.heap[b]?) : PMap W' b L nb := by
  obtain ⟨D, ⟨es, clock, hb, r⟩, h2⟩ := h
  exact ⟨D, ⟨es, clock, e.trans hb, r⟩, h2⟩
theorem Ag.nil (nb : Int → Nat) : Ag (.map []) [] nb := ⟨fun _ => rfl, fun n x h => (by cases h), rfl⟩
theorem Ag.congr {D : DataW Unit} {L L' : List Pr} {nb : Int → Nat} (h : Ag D L nb) (he : ∀ x, (atP L' x).isSome = (atP L x).isSome) (hl : L'.length = L.length) : Ag D L' nb := by
  refine ⟨fun x => (h.has x).trans (he x).symm, fun x p hp zd => ?_, h.size.trans hl.symm⟩
  have k := he x
  rw [hp] at k
  obtain ⟨q, hq⟩ := Option.isSome_iff_exists.1 k.symm
  exact h.val x q hq zd
theorem PMap.congr {W : World} {b : Nat} {L L' : List Pr} {nb : Int → Nat} (h : PMap W b L nb) (he : ∀ x, (atP L' x).isSome = (atP L x).isSome) (hl : L'.length = L.length) : PMap W b L' nb := by
  obtain ⟨D, h1, h2⟩ := h
  exact ⟨D, by rw [hl]; exact h1, h2.congr he hl⟩
theorem PMap.made (W : World) (nb : Int → Nat) : PMap (W.alloc (.map #[] 0)) W.heap.size [] nb := ⟨_, World.ownsMap_made _ _ _ _, Ag.nil nb⟩
theorem keyLit (x : Int) : WideAt.IsKeyLit (.int .i64 x) := by
  simp [WideAt.IsKeyLit]
theorem key_of {x : Int} (h : I64 x) : keyOf Try.prog 3 (.int .i64 x) = some (.int .i64 x) := keyOf_int_mk undInt h.wf
def ptrV (L : List Pr) (nb : Int → Nat) (x : Int) : Value := match atP L x with | some _ => .pointer (some ⟨nb x, 0, none⟩) | none => .pointer none
theorem ptrV_some {L : List Pr} {nb : Int → Nat} {x : Int} {p : Pr} (h : atP L x = some p) : ptrV L nb x = .pointer (some ⟨nb x, 0, none⟩) := by unfold ptrV; rw [h]
theorem ptrV_none {L : List Pr} {nb : Int → Nat} {x : Int} (h : atP L x = none) : ptrV L nb x = .pointer none := by unfold ptrV; rw [h]
/-- 'm[k]'. -/
theorem PMap.look {W : World} {b : Nat} {L : List Pr} {nb : Int → Nat} (h : PMap W b L nb) {x : Int} (hx : I64 x) :
    (Instr.lookup 56 (.map (some b)) (.int .i64 x) false).run Try.prog W = .ok (ptrV L nb x) W := by
  obtain ⟨D, h1, h2⟩ := h
  obtain ⟨v, ps, hr, hv⟩ := h1.lookup intLaw undMap (zeroPtr W) (zd := .lit (.bool false)) (zp := []) rfl (key_of hx)
  rw [hr]
  obtain ⟨c, rfl, hy⟩ := ptrR_inv hv
  cases hf : atP L x with
  | none =>
    have h3 := h2.has x
    rw [hf] at h3
    rw [Maps.atKey_of_not_has h3] at hy
    cases c with
    | none => rw [ptrV_none hf]; rfl
    | some c => cases hy
  | some p =>
    rw [h2.val _ _ hf] at hy
    cases c with
    | none => cases hy
    | some c =>
      rw [ptrV_some hf]
      have : nb x = c := by
        have := congrArg Prod.fst hy
        have h3 : ((nb x : Nat) : Int) = c := by simpa using this
        omega
      rw [this]; rfl
theorem at_snoc {L : List Pr} {p : Pr} (h : atP L p.pid = none) (x : Int) : atP (L ++ [p]) x = if x = p.pid then some p else atP L x := by
  unfold atP at *
  rw [List.find?_append, List.find?_cons]
  by_cases e : x = p.pid
  · rw [if_pos e, e, h, show isP p.pid p = true by simp [isP]]; rfl
  · rw [if_neg e, show isP x p = false by simp [isP]; omega]
    cases List.find? (isP x) L <;> rfl
theorem owns_exact {W : World} {b n : Nat} {D : DataW Unit} {R : Value → Option (DataW Unit × List MemPlace)} {k : TypeId} (h : W.ownsMap Try.prog k R b n D) : W.ownsMap Try.prog k R b (Maps.size D) D := by
  obtain ⟨es, clock, hb, F, hs, rfl⟩ := h
  exact ⟨es, clock, hb, F, by simp [Maps.size, length_sorted], rfl⟩
/-- 'm[k] = p' at a new key. -/
theorem PMap.put {W : World} {b : Nat} {L : List Pr} {nb : Int → Nat} (h : PMap W b L nb) (hl : L.length < maxLen) {p : Pr} (hx : I64 p.pid) (hf : atP L p.pid = none) (g : Nat) :
    ∃ W', (Instr.mapUpdate 56 (.map (some b)) (.int .i64 p.pid) (.pointer (some ⟨g, 0, none⟩))).run Try.prog W = .ok () W' ∧ PMap W' b (L ++ [p]) (fun x => if x = p.pid then g else nb x) ∧ W.mapTurned W' b := by
  obtain ⟨D, h1, h2⟩ := h
  obtain ⟨W', hr, h3, h4⟩ := h1.store intLaw undMap hl (key_of hx) (val := .pointer (some ⟨g, 0, none⟩)) (d := .lit (.int .i64 g)) (ps := []) rfl
  refine ⟨W', hr, ⟨D.put (.int .i64 p.pid) (.lit (.int .i64 g)), ?_, ?_⟩, h4⟩
  · rw [List.length_append]; exact h3
  · have hD := h1.tidy intLaw
    have hk : Maps.has D (.int .i64 p.pid) = false := by rw [h2.has, hf]; rfl
    refine ⟨fun x => ?_, fun x q hq zd => ?_, ?_⟩
    · rw [at_snoc hf]
      by_cases e : x = p.pid
      · rw [if_pos e, e, Maps.has_put_same hD.isMap (keyLit _)]; rfl
      · rw [if_neg e, Maps.has_put_other (fun e2 => e (by cases e2; rfl)), h2.has]
    · rw [at_snoc hf] at hq
      show _ = DataW.lit (.int .i64 ((if x = p.pid then g else nb x : Nat) : Int))
      by_cases e : x = p.pid
      · rw [if_pos e, e, Maps.atKey_put_same hD.isMap (keyLit _)]
      · rw [if_neg e] at hq ⊢
        rw [Maps.atKey_put_other (fun e2 => e (by cases e2; rfl)), h2.val _ _ hq]
    · rw [Maps.size_put hD, hk, List.length_append, h2.size]; rfl
theorem drop_len {L : List Pr} {x : Int} {p : Pr} (ha : L.Pairwise fun p q => p.pid < q.pid) (h : atP L x = some p) : (dropP x L).length + 1 = L.length := by
  obtain ⟨l, m, rfl, e, h1, h2⟩ := at_split ha h
  rw [dropP_split e h1 h2]
  simp; omega
theorem at_dropped (L : List Pr) (x : Int) : atP (dropP x L) x = none := by
  unfold atP dropP
  rw [List.find?_eq_none]
  intro p hp
  rw [List.mem_filter] at hp
  simp [isP] at hp ⊢
  exact hp.2
/-- 'delete(m, k)'. -/
theorem PMap.del {W : World} {b : Nat} {L : List Pr} {nb : Int → Nat} (h : PMap W b L nb) (ha : L.Pairwise fun p q => p.pid < q.pid) {x : Int} {p : Pr} (hx : I64 x) (hf : atP L x = some p) (ty : TypeId) :
    ∃ W', (Builtin.delete_ #[56, 3] ty #[.map (some b), .int .i64 x]).run Try.prog W = .ok (.tuple #[]) W' ∧ PMap W' b (dropP x L) nb ∧ W.mapTurned W' b := by
  obtain ⟨D, h1, h2⟩ := h
  obtain ⟨W', hr, h3, h4⟩ := h1.drop intLaw undMap (key_of hx) ty
  have hD := h1.tidy intLaw
  have hsz : Maps.size (D.del (.int .i64 x)) = (dropP x L).length := by
    have h5 := Maps.size_del (k := .int .i64 x) hD
    rw [h2.has, hf, h2.size] at h5
    have h6 := drop_len ha hf
    simp at h5
    omega
  refine ⟨W', hr, ⟨D.del (.int .i64 x), ?_, ?_⟩, h4⟩
  · rw [← hsz]; exact owns_exact h3
  · refine ⟨fun y => ?_, fun y q hq zd => ?_, hsz⟩
    · by_cases e : y = x
      · rw [e, Maps.has_del_same, at_dropped]; rfl
      · rw [Maps.has_del_other (fun e2 => e (by cases e2; rfl)), h2.has, at_drop e]
    · by_cases e : y = x
      · rw [e, at_dropped] at hq; cases hq
      · rw [at_drop e] at hq
        rw [Maps.atKey_del_other (fun e2 => e (by cases e2; rfl)), h2.val _ _ hq]
/-- a step of the range over the processes. -/
theorem wpl_next {w : World} {ops : Array Oper} {rest : List Oper} {o : Oper} {a : Act} {Q : Exit → Act → World → Prop} {L : List Pr} {nb : Int → Nat} (hg : o.guard = none) (it : Operand) (hop : o.op = Op.next it false)
    (b r n : Nat) (D : DataW Unit) (left : Lit → Bool) (cnt : Nat) (hit : a.eval it = .pointer (some ⟨r, 0, none⟩)) (h : w.ranges Try.prog 3 ptrR b r n D left cnt) (hAg : Ag D L nb)
    (hDone : (∀ kl, left kl = false) → wpList Try.prog ops Q rest (a.put o.dst (.tuple #[.bool false])) w)
    (hMore : ∀ (p : Pr) (w' : World) (cnt' : Nat), p ∈ L → left (.int .i64 p.pid) = true → w'.ranges Try.prog 3 ptrR b r n D (fun z => left z && !z.sameKey (.int .i64 p.pid)) cnt' → cnt' < cnt →
      w.grownBy w' (some r) → (Instr.entry (.pointer (some ⟨r, 0, none⟩))).run Try.prog w' = .ok (.tuple #[.int .i64 p.pid, .pointer (some ⟨nb p.pid, 0, none⟩)]) w' → wpList Try.prog ops Q rest (a.put o.dst (.tuple #[.bool true, .int .i64 p.pid, .pointer (some ⟨nb p.pid, 0, none⟩)])) w') :
    wpList Try.prog ops Q (o :: rest) a w :=
  wpList_next_ranges w hg it hop 3 intLaw ptrR (Value.int .i64) (fun c : Option Nat => Value.pointer (c.map fun b => ⟨b, 0, none⟩)) (fun key kl hkey => by obtain ⟨x, rfl, _⟩ := Maps.keyOf_int_inv undInt hkey; exact ⟨x, rfl⟩) (fun v y hv => by obtain ⟨c, rfl, _⟩ := ptrR_inv hv; exact ⟨c, rfl⟩)
    b r n D left cnt hit h (fun _ => hDone) (fun x c kl y w' cnt' hkey hlk hv hat hrg hlt hgr _ hen => by
      obtain ⟨x', ex, rfl, hw⟩ := Maps.keyOf_int_inv undInt hkey
      cases ex
      have h1 := Maps.has_true_of_atKey hat
      rw [hAg.has] at h1
      obtain ⟨p, hp⟩ := Option.isSome_iff_exists.1 h1
      have h2 := hat (.lit (.bool false))
      rw [hAg.val _ _ hp] at h2
      obtain ⟨hm, hx⟩ := at_some hp
      subst hx
      cases c with
      | none => cases hv; cases h2
      | some c =>
        cases hv
        have : nb p.pid = c := by
          have h3 : ((nb p.pid : Nat) : Int) = c := by simpa using h2
          omega
        subst this
        exact hMore p w' cnt' hm hlk hrg hlt hgr hen)
theorem ranges_blocks {w w' : World} {k : TypeId} {R : Value → Option (DataW Unit × List MemPlace)} {b r n cnt : Nat} {D : DataW Unit} {left : Lit → Bool} (h : w.ranges Try.prog k R b r n D left cnt) (hb : w'.heap[b]? = w.heap[b]?) (hr : w'.heap[r]? = w.heap[r]?) : w'.ranges Try.prog k R b r n D left cnt := by
  obtain ⟨es, clock, since, seen, c0, h1, h2, h3, h4, h5, h6⟩ := h
  exact ⟨es, clock, since, seen, c0, hb.trans h1, h2, h3, h4, hr.trans h5, h6⟩
theorem sameKey_int (x y : Int) : (Lit.int .i64 x).sameKey (.int .i64 y) = (x == y) := by
  by_cases e : x = y
  · rw [e, WideAt.sameKey_self (keyLit y)]; simp
  · rw [Maps.sameKey_ne (fun e2 => e (by cases e2; rfl))]; simp [e]
end Go.Proofs.Ytgbmedbkonloiaa
