/- The program's table in memory, whole: what holds, how each small change carries it on. -/
import Derived.Test.YtgbmedbkonloiaaFB
namespace Go.Proofs.Ytgbmedbkonloiaa
open Go.RowKit Go.Maps
set_option linter.unusedVariables false
set_option linter.unusedSimpArgs false
def intC (us : List Int) : List Value := us.map (Value.int .i64)
def prC (p : Pr) : List Value := [.int .i64 p.pid, .int .i64 p.parent, .int .i64 p.user, .int .i64 p.session, .int .i64 p.status, .bool p.dead, .bool p.reserve]
def prA (p : Pr) : Array Value := (prC p).toArray
def zeroPr : Pr := ⟨0, 0, 0, 0, 0, false, false⟩
/-- the table's cells, its map, its processes, its known users. -/
structure PR (W : World) (B T M : Nat) (nb : Int → Nat) (v : Value) (L : List Pr) (last : Int) (us : List Int) : Prop where
  hb : W.heap[T]? = some (.cells #[.map (some M), .int .i64 last, v] 58 (0, 0))
  map : PMap W M L nb
  node : ∀ x p, atP L x = some p → W.heap[nb x]? = some (.cells (prA p) 32 (0, 0))
  inj : ∀ x y p q, atP L x = some p → atP L y = some q → nb x = nb y → x = y
  us : W.ownsRow B 3 1 v us.length (intC us)
  base : B ≤ T ∧ B ≤ M ∧ ∀ x p, atP L x = some p → B ≤ nb x
def Bp (T M : Nat) (nb : Int → Nat) (v : Value) (L : List Pr) (k : Nat) : Prop := k = T ∨ k = M ∨ (∃ x p, atP L x = some p ∧ k = nb x) ∨ v.ownBlock = some k
section
variable {W W' : World} {B T M : Nat} {nb : Int → Nat} {v : Value} {L : List Pr} {last : Int} {us : List Int}
theorem map_ne {W : World} {b c : Nat} {cs : Array Value} {t : TypeId} {f : Nat × Nat} {L : List Pr} {nb : Int → Nat} (h : W.heap[b]? = some (.cells cs t f)) (k : PMap W c L nb) : b ≠ c := by
  obtain ⟨D, ⟨es, clock, h2, _⟩, _⟩ := k
  intro e
  rw [e, h2] at h
  cases h
theorem PR.ltT (h : PR W B T M nb v L last us) : T < W.heap.size := heap_lt h.hb
theorem PR.ltM (h : PR W B T M nb v L last us) : M < W.heap.size := h.map.lt
theorem PR.lt (h : PR W B T M nb v L last us) {k : Nat} (hk : Bp T M nb v L k) : B ≤ k ∧ k < W.heap.size := by
  rcases hk with rfl | rfl | ⟨x, p, hp, rfl⟩ | hk
  · exact ⟨h.base.1, h.ltT⟩
  · exact ⟨h.base.2.1, h.ltM⟩
  · exact ⟨h.base.2.2 x p hp, heap_lt (h.node x p hp)⟩
  · exact ⟨(own_type h.us hk).1, (own_type h.us hk).2.1⟩
theorem PR.TM (h : PR W B T M nb v L last us) : T ≠ M := map_ne h.hb h.map
theorem PR.nT (h : PR W B T M nb v L last us) {x : Int} {p : Pr} (hp : atP L x = some p) : nb x ≠ T := fun e => types_ne (h.node x p hp) (e ▸ h.hb) (by decide)
theorem PR.nM (h : PR W B T M nb v L last us) {x : Int} {p : Pr} (hp : atP L x = some p) : nb x ≠ M := map_ne (h.node x p hp) h.map
theorem PR.vT (h : PR W B T M nb v L last us) {k : Nat} (hk : v.ownBlock = some k) : k ≠ T := by
  rintro rfl
  obtain ⟨_, _, c, f, hc⟩ := own_type h.us hk
  exact types_ne hc h.hb (by decide)
theorem PR.vM (h : PR W B T M nb v L last us) {k : Nat} (hk : v.ownBlock = some k) : k ≠ M := by
  obtain ⟨_, _, c, f, hc⟩ := own_type h.us hk
  exact map_ne hc h.map
theorem PR.vn (h : PR W B T M nb v L last us) {k : Nat} (hk : v.ownBlock = some k) {x : Int} {p : Pr} (hp : atP L x = some p) : k ≠ nb x := by
  rintro rfl
  obtain ⟨_, _, c, f, hc⟩ := own_type h.us hk
  exact types_ne hc (h.node x p hp) (by decide)
theorem PR.blocks (h : PR W B T M nb v L last us) (hb : ∀ g, Bp T M nb v L g → W'.heap[g]? = W.heap[g]?) : PR W' B T M nb v L last us := by
  refine ⟨(hb T (.inl rfl)).trans h.hb, h.map.of_block (hb M (.inr (.inl rfl))), fun x p hp => (hb _ (.inr (.inr (.inl ⟨x, p, hp, rfl⟩)))).trans (h.node x p hp), h.inj, ⟨h.us.1, ?_⟩, h.base⟩
  rcases h.us.2 with hn | ⟨g, cap, cur, rfl, hB, hg, rest⟩
  · exact .inl hn
  · exact .inr ⟨g, cap, cur, rfl, hB, (hb g (.inr (.inr (.inr rfl)))).trans hg, rest⟩
theorem PR.fr {S : Nat → Prop} (h : PR W B T M nb v L last us) (f : Fr S W W') (hs : ∀ k, Bp T M nb v L k → ¬ S k) : PR W' B T M nb v L last us :=
  h.blocks fun g hg => f.block g (h.lt hg).2 (hs g hg)
theorem PR.cell (h : PR W B T M nb v L last us) : W.cell? ⟨T, 0, none⟩ = some (.map (some M)) ∧ W.cell? ⟨T, 1, none⟩ = some (.int .i64 last) ∧ W.cell? ⟨T, 2, none⟩ = some v := by
  refine ⟨?_, ?_, ?_⟩ <;> rw [Lib.cell_of_heap h.hb] <;> rfl
theorem PR.frozen (h : PR W B T M nb v L last us) (o : Nat) : W.frozen? ⟨T, o, none⟩ = false := Lib.frozen_of_heap h.hb o
theorem PR.cells (h : PR W B T M nb v L last us) {x : Int} {p : Pr} (hp : atP L x = some p) :
    W.cell? ⟨nb x, 0, none⟩ = some (.int .i64 p.pid) ∧ W.cell? ⟨nb x, 1, none⟩ = some (.int .i64 p.parent) ∧ W.cell? ⟨nb x, 2, none⟩ = some (.int .i64 p.user) ∧ W.cell? ⟨nb x, 3, none⟩ = some (.int .i64 p.session) ∧
      W.cell? ⟨nb x, 4, none⟩ = some (.int .i64 p.status) ∧ W.cell? ⟨nb x, 5, none⟩ = some (.bool p.dead) ∧ W.cell? ⟨nb x, 6, none⟩ = some (.bool p.reserve) := by
  refine ⟨?_, ?_, ?_, ?_, ?_, ?_, ?_⟩ <;> rw [Lib.cell_of_heap (h.node x p hp)] <;> rfl
theorem PR.frozenN (h : PR W B T M nb v L last us) {x : Int} {p : Pr} (hp : atP L x = some p) (o : Nat) : W.frozen? ⟨nb x, o, none⟩ = false := Lib.frozen_of_heap (h.node x p hp) o
theorem PR.look (h : PR W B T M nb v L last us) {x : Int} (hx : I64 x) : (Instr.lookup 56 (.map (some M)) (.int .i64 x) false).run Try.prog W = .ok (ptrV L nb x) W := h.map.look hx
theorem modP_at (L : List Pr) (x : Int) (f : Pr → Pr) (hf : ∀ p, (f p).pid = p.pid) (y : Int) : atP (modP x f L) y = (atP L y).map fun p => if y = x then f p else p := by
  unfold modP
  rw [at_map (fun p => by split; exact hf p; rfl)]
  cases h : atP L y with
  | none => rfl
  | some p =>
    have := (at_some h).2
    subst this
    rfl
theorem modP_some {L : List Pr} {x : Int} {f : Pr → Pr} (hf : ∀ p, (f p).pid = p.pid) {y : Int} {q : Pr} (h : atP (modP x f L) y = some q) : ∃ p, atP L y = some p ∧ q = if y = x then f p else p := by
  rw [modP_at L x f hf] at h
  cases hp : atP L y with
  | none => rw [hp] at h; cases h
  | some p => rw [hp] at h; cases h; exact ⟨p, rfl, rfl⟩
/-- one cell of a process is written. -/
theorem PR.set1 (h : PR W B T M nb v L last us) {x : Int} {p : Pr} (hp : atP L x = some p) (j : Nat) (u : Value) (f : Pr → Pr) (hf : ∀ p, (f p).pid = p.pid) (hv : prA (f p) = (prA p).setIfInBounds j u) :
    PR (W.setCell ⟨nb x, j, none⟩ u) B T M nb v (modP x f L) last us := by
  have fr := Fr.one W (nb x) j u
  refine ⟨(fr.block T h.ltT (fun e => h.nT hp e.symm)).trans h.hb, (h.map.of_block (fr.block M h.ltM (fun e => h.nM hp e.symm))).congr (fun y => ?_) (by unfold modP; rw [List.length_map]), fun y q hq => ?_, fun y z q r hq hr e => ?_, own_fr h.us fr fun k hk e => h.vn hk hp e, h.base.1, h.base.2.1, fun y q hq => ?_⟩
  · rw [modP_at L x f hf]; cases atP L y <;> rfl
  · obtain ⟨r, hr, rfl⟩ := modP_some hf hq
    by_cases e : y = x
    · subst e
      rw [hp] at hr; cases hr
      rw [if_pos rfl, hv]
      exact heap_set (h.node y p hp) j u
    · rw [if_neg e]
      exact (fr.block _ (heap_lt (h.node y r hr)) (fun e2 => e (h.inj _ _ _ _ hr hp e2))).trans (h.node y r hr)
  · obtain ⟨q', hq', _⟩ := modP_some hf hq
    obtain ⟨r', hr', _⟩ := modP_some hf hr
    exact h.inj y z _ _ hq' hr' e
  · obtain ⟨q', hq', _⟩ := modP_some hf hq
    exact h.base.2.2 y q' hq'
theorem PR.sLast (h : PR W B T M nb v L last us) (l : Int) : PR (W.setCell ⟨T, 1, none⟩ (.int .i64 l)) B T M nb v L l us := by
  have fr := Fr.one W T 1 (.int .i64 l)
  exact ⟨heap_set h.hb _ _, h.map.of_block (fr.block M h.ltM (fun e => h.TM e.symm)), fun x p hp => (fr.block _ (heap_lt (h.node x p hp)) (h.nT hp)).trans (h.node x p hp), h.inj, own_fr h.us fr fun k hk e => h.vT hk e, h.base⟩
/-- a user is known: the row's value is stored. -/
theorem PR.sUs (h : PR W B T M nb v L last us) {v' : Value} {us' : List Int} (g : W.grownBy W' v.ownBlock) (h0 : W'.ownsRow B 3 1 v' us'.length (intC us')) (hv : v'.ownBlock = v.ownBlock ∨ ∃ k, v'.ownBlock = some k ∧ W.heap.size ≤ k) :
    PR (W'.setCell ⟨T, 2, none⟩ v') B T M nb v' L last us' ∧ Fr (Bp T M nb v L) W (W'.setCell ⟨T, 2, none⟩ v') ∧ ∀ k, Bp T M nb v' L k → Bp T M nb v L k ∨ W.heap.size ≤ k := by
  have f := Fr.grown g
  have hT : W'.heap[T]? = _ := (f.block T h.ltT (fun hk => h.vT hk rfl)).trans h.hb
  have hM := h.map.of_block (f.block M h.ltM (fun hk => h.vM hk rfl))
  have hN : ∀ x p, atP L x = some p → W'.heap[nb x]? = some (.cells (prA p) 32 (0, 0)) := fun x p hp => (f.block _ (heap_lt (h.node x p hp)) (fun hk => h.vn hk hp rfl)).trans (h.node x p hp)
  have fr := Fr.one W' T 2 v'
  refine ⟨⟨heap_set hT _ _, hM.of_block (fr.block M hM.lt (fun e => h.TM e.symm)), fun x p hp => (fr.block _ (heap_lt (hN x p hp)) (h.nT hp)).trans (hN x p hp), h.inj, own_fr h0 fr ?_, h.base⟩, (f.mono fun k _ hk => .inr (.inr (.inr hk))).setCell (p := ⟨T, 2, none⟩) (.inl (.inl rfl)) _, ?_⟩
  · rintro k hk rfl
    obtain ⟨_, _, c, f, hc⟩ := own_type h0 hk
    exact types_ne hc hT (by decide)
  · rintro k (hk | hk | hk | hk)
    · exact .inl (.inl hk)
    · exact .inl (.inr (.inl hk))
    · exact .inl (.inr (.inr (.inl hk)))
    · rcases hv with hv | ⟨j, hv, hj⟩
      · exact .inl (.inr (.inr (.inr (hv ▸ hk))))
      · rw [hv] at hk; cases hk; exact .inr hj
/-- a process comes. -/
theorem PR.put (h : PR W B T M nb v L last us) {p : Pr} {g : Nat} (hg : W.heap[g]? = some (.cells (prA p) 32 (0, 0))) (hB : B ≤ g) (hn : ∀ x q, atP L x = some q → nb x ≠ g) (hf : atP L p.pid = none) (t : W.mapTurned W' M) (hm : PMap W' M (L ++ [p]) (fun x => if x = p.pid then g else nb x)) :
    PR W' B T M (fun x => if x = p.pid then g else nb x) v (L ++ [p]) last us := by
  have f := Fr.grown t.grown
  have hne : ∀ y, (atP L y).isSome → y ≠ p.pid := fun y hy e => by rw [e, hf] at hy; cases hy
  refine ⟨(f.block T h.ltT (fun e => h.TM (by cases e; rfl))).trans h.hb, hm, fun x q hq => ?_, fun x y q r hq hr e => ?_, own_fr h.us f (fun k hk e => h.vM hk (by cases e; rfl)), h.base.1, h.base.2.1, fun x q hq => ?_⟩
  · rw [at_snoc hf] at hq
    show W'.heap[if x = p.pid then g else nb x]? = _
    by_cases e : x = p.pid
    · rw [if_pos e] at hq ⊢
      cases hq
      exact (f.block g (heap_lt hg) (fun e2 => map_ne hg h.map (by cases e2; rfl))).trans hg
    · rw [if_neg e] at hq ⊢
      exact (f.block _ (heap_lt (h.node x q hq)) (fun e2 => h.nM hq (by cases e2; rfl))).trans (h.node x q hq)
  · rw [at_snoc hf] at hq hr
    change (if x = p.pid then g else nb x) = (if y = p.pid then g else nb y) at e
    by_cases ex : x = p.pid
    · by_cases ey : y = p.pid
      · rw [ex, ey]
      · rw [if_neg ey] at hr e
        rw [if_pos ex] at e
        exact absurd e.symm (hn y r hr)
    · rw [if_neg ex] at hq e
      by_cases ey : y = p.pid
      · rw [if_pos ey] at e
        exact absurd e (hn x q hq)
      · rw [if_neg ey] at hr e
        exact h.inj x y q r hq hr e
  · rw [at_snoc hf] at hq
    show B ≤ if x = p.pid then g else nb x
    by_cases e : x = p.pid
    · rw [if_pos e]; exact hB
    · rw [if_neg e] at hq ⊢; exact h.base.2.2 x q hq
/-- a process goes. -/
theorem PR.del (h : PR W B T M nb v L last us) {x : Int} (t : W.mapTurned W' M) (hm : PMap W' M (dropP x L) nb) : PR W' B T M nb v (dropP x L) last us := by
  have f := Fr.grown t.grown
  have hs : ∀ y q, atP (dropP x L) y = some q → atP L y = some q := fun y q hq => by
    by_cases e : y = x
    · rw [e, at_dropped] at hq; cases hq
    · rw [at_drop e] at hq; exact hq
  exact ⟨(f.block T h.ltT (fun e => h.TM (by cases e; rfl))).trans h.hb, hm, fun y q hq => (f.block _ (heap_lt (h.node y q (hs y q hq))) (fun e2 => h.nM (hs y q hq) (by cases e2; rfl))).trans (h.node y q (hs y q hq)), fun y z q r hq hr => h.inj y z q r (hs y q hq) (hs z r hr), own_fr h.us f (fun k hk e => h.vM hk (by cases e; rfl)), h.base.1, h.base.2.1, fun y q hq => h.base.2.2 y q (hs y q hq)⟩
theorem Bp.drop {x : Int} {k : Nat} (h : Bp T M nb v (dropP x L) k) : Bp T M nb v L k := by
  rcases h with h | h | ⟨y, q, hq, rfl⟩ | h
  · exact .inl h
  · exact .inr (.inl h)
  · refine .inr (.inr (.inl ⟨y, q, ?_, rfl⟩))
    by_cases e : y = x
    · rw [e, at_dropped] at hq; cases hq
    · rw [at_drop e] at hq; exact hq
  · exact .inr (.inr (.inr h))
theorem Bp.mod {x : Int} {f : Pr → Pr} (hf : ∀ p, (f p).pid = p.pid) {k : Nat} : Bp T M nb v (modP x f L) k ↔ Bp T M nb v L k := by
  unfold Bp
  have : (∃ y q, atP (modP x f L) y = some q ∧ k = nb y) ↔ ∃ y q, atP L y = some q ∧ k = nb y := by
    constructor
    · rintro ⟨y, q, hq, e⟩
      obtain ⟨r, hr, _⟩ := modP_some hf hq
      exact ⟨y, r, hr, e⟩
    · rintro ⟨y, q, hq, e⟩
      exact ⟨y, _, by rw [modP_at L x f hf, hq]; rfl, e⟩
  rw [this]
end
/-- the table s lies at T, on the blocks S. -/
def TAt (W : World) (B T : Nat) (S : Nat → Prop) (s : TB) : Prop := ∃ M nb v, PR W B T M nb v s.L s.last s.users ∧ S = Bp T M nb v s.L
def Does (W : World) (B T : Nat) (S : Nat → Prop) (s : TB) (w' : World) : Prop := ∃ S', TAt w' B T S' s ∧ Step S S' W w'
section
variable {W W' : World} {B T : Nat} {S : Nat → Prop} {s : TB}
theorem TAt.lt (h : TAt W B T S s) {k : Nat} (hk : S k) : B ≤ k ∧ k < W.heap.size := by
  obtain ⟨M, nb, v, h1, rfl⟩ := h
  exact h1.lt hk
theorem TAt.fr {R : Nat → Prop} (h : TAt W B T S s) (f : Fr R W W') (hs : ∀ k, S k → ¬ R k) : TAt W' B T S s := by
  obtain ⟨M, nb, v, h1, rfl⟩ := h
  exact ⟨M, nb, v, h1.fr f hs, rfl⟩
theorem TAt.does (h : TAt W B T S s) : Does W B T S s W := ⟨S, h, Step.refl _ _⟩
theorem TAt.does_fr (h : TAt W B T S s) (f : Fr (fun _ => False) W W') : Does W B T S s W' := ⟨S, h.fr f fun _ _ => id, f.mono (fun _ _ h => h.elim), fun _ h => .inl h⟩
theorem Does.then {W1 W2 : World} {S1 : Nat → Prop} {s2 : TB} (k : Step S S1 W W1) (h : Does W1 B T S1 s2 W2) : Does W B T S s2 W2 := by
  obtain ⟨S', h1, h2⟩ := h
  exact ⟨S', h1, k.trans h2⟩
end
end Go.Proofs.Ytgbmedbkonloiaa
