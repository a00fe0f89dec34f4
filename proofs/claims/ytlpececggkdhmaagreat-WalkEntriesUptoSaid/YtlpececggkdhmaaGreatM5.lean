import Derived.Deep.RegionHeld3
import Derived.Deep.AppendLies
import Derived.Deep.DrawnRows
import Derived.IntWalk
import Derived.Laws.MakeOwn
import Derived.Laws.Entries
import Derived.StillTailTactics
import Derived.Test.YtlpececggkdhmaaGreatM4
open Go.Lib (hid)
set_option linter.unusedVariables false
set_option linter.unusedSimpArgs false
set_option maxHeartbeats 4000000
set_option maxRecDepth 100000
namespace Go.Proofs.YtlpececggkdhmaaGreat
section
open Go.RowKit Ino
theorem infoEntry : (Tryz.prog.info? 143).map (fun i => (i.zero, i.size, i.bytes)) = some (some (.agg #[.string ByteArray.empty, .int .i64 0]), 2, 24) := by kernel_rfl
theorem info_parts {e : TypeId} {z : Value} {s b : Nat} (h : (Tryz.prog.info? e).map (fun i => (i.zero, i.size, i.bytes)) = some (some z, s, b)) : ∃ i, Tryz.prog.info? e = some i ∧ i.zero = some z ∧ i.size = s ∧ i.bytes = b := by
 cases hi : Tryz.prog.info? e with
 | none => rw [hi] at h; cases h
 | some i =>
  rw [hi] at h
  simp only [Option.map_some, Option.some.injEq, Prod.mk.injEq] at h
  exact ⟨i, rfl, h.1, h.2.1, h.2.2⟩
theorem append_none (g n cap : Nat) (p : Option Addr) (c : Nat) (w : World) (hn : n ≤ cap) (hc : cap ≤ maxLen) : (Builtin.append_ #[80, 80] 80 #[.slice (some ⟨g, 0, none⟩) n cap, .slice p 0 c]).run Tryz.prog w = .ok (.slice (some ⟨g, 0, none⟩) n cap) w := by
 obtain ⟨i0, hi, hz0, hz1, hz2⟩ := info_parts infoEntry
 cases p with
 | none => simp [Builtin.append_, run_underlying Tryz.underlying80, sizeOf, typeInfo, hi, Builtin.lenOf, Builtin.firstCells, storeCells]; intro h; omega
 | some a => simp [Builtin.append_, run_underlying Tryz.underlying80, sizeOf, typeInfo, hi, Builtin.lenOf, Builtin.firstCells, storeCells, loadCells, loadCellsFrom]; intro h; omega
def News (W : World) (p : Option Addr) (m : Nat) (news : List Value) : Prop := news.length = m * 2 ∧ (∀ u ∈ news, u.oneCell' = true) ∧ (0 < m → ∃ g off, p = some ⟨g, off, none⟩ ∧ ∀ j u, news[j]? = some u → W.cell? ⟨g, off + j, none⟩ = some u)
theorem add_at (g off j : Nat) : (⟨g, off, none⟩ : Addr).add j = ⟨g, off + j, none⟩ := by
 unfold Addr.add
 split
 ·rename_i h; subst h; rfl
 ·rfl
theorem step_append_any {ops : Array Oper} {o : Oper} {a : Act} {K : Act → World → Prop} {Q : Exit → Act → World → Prop} {E : Prop} {w : World} (hgd : o.guard = none) (s x : Operand)
 (ho : o.op = .call { callee := .builtin .append, args := #[s, x], argTypes := #[80, 80] }) (hty : o.type = 80) (base g0 n cap0 : Nat) (xs : List Value)
 (hs : a.eval s = .slice (some ⟨g0, 0, none⟩) n cap0) (hown : w.ownsRow base 143 2 (.slice (some ⟨g0, 0, none⟩) n cap0) n xs)
 (p : Option Addr) (m c : Nat) (hx : a.eval x = .slice p m c) (news : List Value) (hnews : News w p m news) (hn : n ≤ 1000) (hm : m ≤ 1000) (hbase : base ≤ w.heap.size)
 (h : ∀ g cap w', w'.ownsRow base 143 2 (.slice (some ⟨g, 0, none⟩) (n + m) cap) (n + m) (xs ++ news) → w.grownBy w' (some g0) → (g = g0 ∨ g = w.heap.size) → g < w'.heap.size → K (a.put o.dst (.slice (some ⟨g, 0, none⟩) (n + m) cap)) w') :
 if Region.wanted o (yielded ops a.tmps) = true then Oper.wp Tryz.prog o a w K Q else E := by
 obtain ⟨i0, hi, hz0, hz1, hz2⟩ := info_parts infoEntry
 by_cases h0 : 0 < m
 ·obtain ⟨hl, h1, hp⟩ := hnews
  obtain ⟨g, off, rfl, hc⟩ := hp h0
  refine step_append_lies w hgd s x 80 ho base 143 i0 _ 2 24 Tryz.underlying80 hi hz0 hz1 hz2 rfl (by decide) _ n xs hs hown ⟨g, off, none⟩ m c news hx hl (fun j u hu => by rw [add_at]; exact hc j u hu) h1 h0 (by unfold maxLen; omega) (by omega) hbase w.heap.size rfl ?_
  intro g cap w' k1 k2 k3 k4
  refine h g cap w' k1 k2 ?_ k4
  rcases k3 with k3 | k3
  ·left; simpa [Value.ownBlock] using k3.symm
  ·exact .inr k3
 ·have hm0 : m = 0 := by omega
  subst hm0
  have hnil : news = [] := List.length_eq_zero_iff.1 (by have := hnews.1; omega)
  subst hnil
  have hform : n ≤ cap0 ∧ cap0 ≤ maxLen ∧ g0 < w.heap.size := by
   rcases hown.2 with ⟨h1, _⟩ | ⟨g, cap, cur, h1, _, h2, h3, h4, _⟩
   ·cases h1
   ·obtain ⟨e1, _, e3⟩ := Value.slice.inj h1
    cases e1
    subst e3
    exact ⟨h3, h4, (Array.getElem?_eq_some_iff.1 h2).1⟩
  have hw : Region.wanted o (yielded ops a.tmps) = true := by simp [Region.wanted, hgd]
  rw [if_pos hw]
  have hrun := append_none g0 n cap0 p c w hform.1 hform.2.1
  unfold Oper.wp execOp
  simp only [ho, hty, resolve, invoke, builtin, Sem.run_bind, Sem.run_pure, Result.andThen_ok, List.map_toArray, List.map_cons, List.map_nil, hs, hx, hrun]
  refine h g0 cap0 w (by rw [Nat.add_zero, List.append_nil]; exact hown) ⟨rfl, rfl, rfl, Nat.le_refl _, fun _ _ _ => rfl⟩ (.inl rfl) hform.2.2
end
section
open Go.RowKit Ino
attribute [local go_sem ↓] Go.wp_at_zero Go.wp_at_succ
def entC : List (Bs × Nat) → List Value
 | [] => []
 | e :: l => .string ⟨e.1.toArray⟩ :: .int .i64 e.2 :: entC l
theorem entC_length : ∀ l, (entC l).length = l.length * 2
 | [] => rfl
 | e :: l => by show (entC l).length + 1 + 1 = (l.length + 1) * 2; rw [entC_length l]; omega
theorem entC_one : ∀ (l : List (Bs × Nat)) (u : Value), u ∈ entC l → u.oneCell' = true
 | e :: l, u, h => by
  rcases List.mem_cons.1 h with h | h
  ·rw [h]; rfl
  ·rcases List.mem_cons.1 h with h | h
   ·rw [h]; rfl
   ·exact entC_one l u h
theorem entC_append : ∀ l m, entC (l ++ m) = entC l ++ entC m
 | [], _ => rfl
 | e :: l, m => by show _ :: _ :: entC (l ++ m) = _; rw [entC_append l m]; rfl
theorem entC_get : ∀ (l : List (Bs × Nat)) (j : Nat) (e : Bs × Nat), l[j]? = some e → (entC l)[j * 2]? = some (.string ⟨e.1.toArray⟩) ∧ (entC l)[j * 2 + 1]? = some (.int .i64 e.2)
 | a :: l, 0, e, h => by simp at h; subst h; exact ⟨rfl, rfl⟩
 | a :: l, j + 1, e, h => by
  have := entC_get l j e (by simpa using h)
  rw [show (j + 1) * 2 = j * 2 + 1 + 1 by omega]
  exact this
theorem entC_of : ∀ (l : List (Bs × Nat)) (j : Nat) (u : Value), (entC l)[j]? = some u → ∃ e, l[j / 2]? = some e ∧ (j % 2 = 0 → u = .string ⟨e.1.toArray⟩) ∧ (j % 2 = 1 → u = .int .i64 e.2)
 | a :: l, 0, u, h => ⟨a, rfl, fun _ => by cases h; rfl, fun h => by cases h⟩
 | a :: l, 1, u, h => ⟨a, rfl, (fun h => by cases h), fun _ => by cases h; rfl⟩
 | a :: l, j + 2, u, h => by
  obtain ⟨e, h1, h2, h3⟩ := entC_of l j u (by simpa [entC] using h)
  refine ⟨e, by rw [show (j + 2) / 2 = j / 2 + 1 by omega]; simpa using h1, fun hj => h2 (by omega), fun hj => h3 (by omega)⟩
theorem EntsAt.news {W : World} {A B : Nat} {own : Nat → Prop} {l : List (Bs × Nat)} {p : Option Addr}
 (h : ∀ (j : Nat) (e : Bs × Nat), l[j]? = some e → ∃ g off, p = some ⟨g, off, none⟩ ∧ own g ∧ g ≠ A ∧ g ≠ B ∧ W.cell? ⟨g, off + j * 2, none⟩ = some (.string ⟨e.1.toArray⟩) ∧ W.cell? ⟨g, off + j * 2 + 1, none⟩ = some (.int .i64 e.2)) : News W p l.length (entC l) := by
 refine ⟨entC_length l, entC_one l, fun h0 => ?_⟩
 obtain ⟨g, off, hp, _⟩ := h 0 _ (List.getElem?_eq_getElem h0)
 refine ⟨g, off, hp, fun j u hu => ?_⟩
 obtain ⟨e, h1, h2, h3⟩ := entC_of l j u hu
 obtain ⟨g', off', hp', _, _, _, k1, k2⟩ := h (j / 2) e h1
 rw [hp] at hp'
 cases hp'
 rcases Nat.mod_two_eq_zero_or_one j with hj | hj
 ·rw [h2 hj]; rw [show off + j = off + j / 2 * 2 by omega]; exact k1
 ·rw [h3 hj]; rw [show off + j = off + j / 2 * 2 + 1 by omega]; exact k2
theorem News.fr {W W' : World} {p : Option Addr} {m : Nat} {news : List Value} {S : Nat → Prop} (h : News W p m news) (hf : Fr S W W') (hs : ∀ g off, p = some ⟨g, off, none⟩ → ¬ S g) : News W' p m news :=
 ⟨h.1, h.2.1, fun h0 => by
  obtain ⟨g, off, hp, hc⟩ := h.2.2 h0
  exact ⟨g, off, hp, fun j u hu => hf.cell (hc j u hu) (hs g off hp)⟩⟩
theorem Fr.of_grown {a b : World} {row : Option Nat} (h : a.grownBy b row) : Fr (fun k => some k = row) a b := ⟨h.os, h.tape, h.output, h.size, fun k hk hn => h.block k hk hn⟩
theorem Fr.frozen {S : Nat → Prop} {a b : World} (h : Fr S a b) {g o o' : Nat} {v : Value} {z : Bool} (hc : a.cell? ⟨g, o', none⟩ = some v) (hz : a.frozen? ⟨g, o, none⟩ = z) (hn : ¬ S g) : b.frozen? ⟨g, o, none⟩ = z :=
 (World.frozen?_of_block (h.block g (cell_lt hc) hn)).trans hz
theorem Fr.into {a b c : World} {g : Nat} (h : Fr (fun _ => False) a b) (k : b.grownBy c (some g)) (hg : a.heap.size ≤ g) : Fr (fun _ => False) a c :=
 ⟨k.os.trans h.os, k.tape.trans h.tape, k.output.trans h.output, Nat.le_trans h.size k.size, fun i hi hn => (k.block i (Nat.lt_of_lt_of_le hi h.size) (fun e => by cases e; omega)).trans (h.block i hi hn)⟩
theorem EntsAt.of_own {W : World} {A B base g cap : Nat} {own : Nat → Prop} {l : List (Bs × Nat)} (h : W.ownsRow base 143 2 (.slice (some ⟨g, 0, none⟩) l.length cap) l.length (entC l)) (hA : g ≠ A) (hB : g ≠ B) (ho : own g) : EntsAt W A B own (.slice (some ⟨g, 0, none⟩) l.length cap) l := by
 rcases h.2 with ⟨h1, _⟩ | ⟨g', cap', cur, h1, _, h2, h3, h4, h5, h6⟩
 ·cases h1
 ·obtain ⟨e1, _, e3⟩ := Value.slice.inj h1
  cases e1
  subst e3
  refine ⟨_, cap, rfl, h3, h4, fun j e he => ⟨g, 0, rfl, ho, hA, hB, ?_, ?_⟩⟩
  ·rw [Nat.zero_add, cell_of_row W g (j * 2) cur _ (0, 0) h2]
   have := (entC_get l j e he).1
   rw [← h6, List.getElem?_take] at this
   split at this
   ·simpa using this
   ·cases this
  ·rw [Nat.zero_add, cell_of_row W g (j * 2 + 1) cur _ (0, 0) h2]
   have := (entC_get l j e he).2
   rw [← h6, List.getElem?_take] at this
   split at this
   ·simpa using this
   ·cases this
theorem RT.mono {W : World} {A B : Nat} {own own' : Nat → Prop} {t : T} (h : RT W A B own t) (ho : ∀ g, own g → own' g) : RT W A B own' t := by
 obtain ⟨ev, h1, h2⟩ := h.row
 exact ⟨h.top, h.ne, ho A h.ownA, ho B h.ownB, ev, h1, fun i hi => (h2 i hi).fr (S := fun _ => False) (Fr.refl _ _) (fun _ _ _ _ _ => id) ho⟩
def Rt (w : World) (A B : Nat) (own : Nat → Prop) (t' : T) (w' : World) : Prop := ∃ own', RT w' A B own' t' ∧ (∀ g, own g → own' g) ∧ (∀ g, own' g → own g ∨ w.heap.size ≤ g) ∧ Fr (· = B) w w'
theorem without_any {A B : Nat} {own : Nat → Prop} {t : T} (d k : Nat) (w : World) (h : RT w A B own t) (hd : d ≤ 200) (hl40 : (t d).ents.length ≤ 40) (hk : k < (t d).ents.length) :
 Calls Tryz.prog 124 #[.pointer (some ⟨A, 0, none⟩), .int .i64 d, .int .i64 k] w fun e w' => e = .returned (.tuple #[]) ∧ Rt w A B own (setEnts t d ((t d).ents.take k ++ (t d).ents.drop (k + 1))) w' := by
 have htop := h.top
 have hlt := h.lt
 have hne := h.ne
 obtain ⟨p, cap, -, -, -, -, -, -, -, -, -, c9, hl1, hl2, he⟩ := h.cells d hd
 have hfz := h.frozen (d * 10 + 9)
 have H := hid h
 clear h
 generalize hL : (t d).ents = l at c9 hl1 he hl40 hk ⊢
 have HL := hid hL
 clear hL
 unfold maxLen at hl2
 have N1 := hid (EntsAt.news (l := l.take k) (p := p) (W := w) (A := A) (B := B) (own := own) fun j e hj => he j e (by
  rw [List.getElem?_take] at hj
  split at hj
  ·exact hj
  ·cases hj))
 obtain ⟨g, off, rfl, og, gA, gB, -, -⟩ := he k _ (List.getElem?_eq_getElem hk)
 have hgl : g < w.heap.size := by
  obtain ⟨g', off', e1, _, _, _, e2, _⟩ := he k _ (List.getElem?_eq_getElem hk)
  cases e1
  exact cell_lt e2
 have N2 := hid (EntsAt.news (l := l.drop (k + 1)) (p := some ⟨g, off + (k + 1) * 2, none⟩) (W := w) (A := A) (B := B) (own := own) fun j e hj => by
  rw [List.getElem?_drop] at hj
  obtain ⟨g', off', hp, k1, k2, k3, k4, k5⟩ := he (k + 1 + j) e hj
  cases hp
  refine ⟨g, off + (k + 1) * 2, rfl, k1, k2, k3, ?_, ?_⟩
  ·rw [show off + (k + 1) * 2 + j * 2 = off + (k + 1 + j) * 2 by omega]; exact k4
  ·rw [show off + (k + 1) * 2 + j * 2 + 1 = off + (k + 1 + j) * 2 + 1 by omega]; exact k5)
 have hlen1 : (l.take k).length = k := by rw [List.length_take]; omega
 have hlen2 : (l.drop (k + 1)).length = l.length - (k + 1) := List.length_drop
 rw [hlen1] at N1
 rw [hlen2] at N2
 have HL1 := hid hlen1
 have HL2 := hid hlen2
 clear hlen1 hlen2
 clear he
 have i1 : (0 : Int) ≤ (k : Int) := by omega
 have i2 : (k : Int) ≤ (cap : Int) := by omega
 have i3 : (k : Int) + 1 ≤ (l.length : Int) := by omega
 have i4 : (0 : Int) ≤ (k : Int) + 1 := by omega
 have i5 : (l.length : Int) ≤ (cap : Int) := by omega
 have i6 : IntKind.i64.wrap ((k : Int) + 1) = (k : Int) + 1 := IntWalk.i64_in _ (by omega)
 have i7 : ((k : Int) + 1).toNat = k + 1 := by omega
 have i8 : (0 : Int) ≤ (d : Int) := by omega
 have i9 : (d : Int) < 201 := by omega
 by_cases hcap : cap = k + 1
 ·subst hcap
  have j1 : (k : Int) ≤ (k : Int) + 1 := by omega
  have j2 : (l.length : Int) ≤ (k : Int) + 1 := by omega
  have j3 : k ≤ k + 1 := by omega
  have hle : l.length = k + 1 := by omega
  have Hle := hid hle
  clear hle
  go_enter Tryz.func124, Tryz.ntmps124
  go_wp2
  go_region_held3 (fun w' => w'.cell? ⟨A, 0, none⟩ = some (.slice (some ⟨B, 0, none⟩) 201 201))
   (first
     | go_keep
     | exact hF3.cell htop id
     | exact hF5.cell htop id
     | exact (World.cell?_setCell_other _ _ _ _ (by intro e; have := congrArg Addr.block e; simp at this; omega)).trans (hF5.cell htop id))
   (first
     | (refine step_append_any (by rfl) _ _ (by rfl) (by rfl) w.heap.size w.heap.size 0 0 [] (by rfl) ((World.ownsRow_made w #[] 0 (Nat.le_refl _) (by decide) rfl).drew) (some ⟨g, off, none⟩) k _ (by rfl) (entC (l.take k)) ((N1.out.fr ((Fr.refl (fun _ => False) w).alloc _).drew fun _ _ _ => id)) (by decide) (by omega) (by simp) ?_
        intro g3 cap3 w3 hown3 hgrow3 hat3 hlt3
        simp only [Nat.zero_add, List.nil_append] at hown3 ⊢
        have hF3 : Fr (fun _ => False) w w3 := ((Fr.refl (fun _ => False) w).alloc _).drew.into hgrow3 (Nat.le_refl _)
        have hb3 := (hown3.lt g3 rfl).1)
     | (refine step_append_any (by rfl) _ _ (by rfl) (by rfl) w.heap.size g3 k cap3 (entC (l.take k)) (by rfl) hown3 _ 0 _ (by rfl) [] ⟨rfl, (fun _ h => by cases h), fun h0 => absurd h0 (Nat.lt_irrefl 0)⟩ (by omega) (by omega) hF3.size ?_
        intro g5 cap5 w5 hown5 hgrow5 hat5 hlt5
        have hF5 : Fr (fun _ => False) w w5 := hF3.into hgrow5 hb3
        have hz5 := hF5.frozen c9 hfz id
        have hc5 := hF5.cell c9 id))
  go_end0
  have hdn : l.drop (k + 1) = [] := List.drop_of_length_le (by have := Hle.out; omega)
  have hb5 := (hown5.lt g5 rfl).1
  rw [Nat.add_zero, List.append_nil] at hown5
  have hE : EntsAt w5 A B (fun x => own x ∨ x = g5) (.slice (some ⟨g5, 0, none⟩) k cap5) (l.take k ++ l.drop (k + 1)) := by
   rw [hdn, List.append_nil]
   have hown6 : w5.ownsRow w.heap.size 143 2 (.slice (some ⟨g5, 0, none⟩) (l.take k).length cap5) (l.take k).length (entC (l.take k)) := by rw [HL1.out]; exact hown5
   have := EntsAt.of_own (A := A) (B := B) (own := fun x => own x ∨ x = g5) hown6 (by omega) (by omega) (.inr rfl)
   rw [HL1.out] at this
   exact this
  refine ⟨rfl, fun x => own x ∨ x = g5, ((H.out.fr hF5 fun _ _ _ => id).mono fun _ => .inl).setE d hd _ _ hE, fun _ => .inl, fun x hx => ?_, (hF5.mono fun _ _ h => h.elim).setB _ _⟩
  rcases hx with hx | hx
  ·exact .inl hx
  ·exact .inr (by omega)
 ·go_enter Tryz.func124, Tryz.ntmps124
  go_wp2
  go_region_held3 (fun w' => w'.cell? ⟨A, 0, none⟩ = some (.slice (some ⟨B, 0, none⟩) 201 201))
   (first
     | go_keep
     | exact hF3.cell htop id
     | exact hF5.cell htop id
     | exact (World.cell?_setCell_other _ _ _ _ (by intro e; have := congrArg Addr.block e; simp at this; omega)).trans (hF5.cell htop id))
   (first
     | (refine step_append_any (by rfl) _ _ (by rfl) (by rfl) w.heap.size w.heap.size 0 0 [] (by rfl) ((World.ownsRow_made w #[] 0 (Nat.le_refl _) (by decide) rfl).drew) (some ⟨g, off, none⟩) k _ (by rfl) (entC (l.take k)) ((N1.out.fr ((Fr.refl (fun _ => False) w).alloc _).drew fun _ _ _ => id)) (by decide) (by omega) (by simp) ?_
        intro g3 cap3 w3 hown3 hgrow3 hat3 hlt3
        simp only [Nat.zero_add, List.nil_append] at hown3 ⊢
        have hF3 : Fr (fun _ => False) w w3 := ((Fr.refl (fun _ => False) w).alloc _).drew.into hgrow3 (Nat.le_refl _)
        have hb3 := (hown3.lt g3 rfl).1)
     | (refine step_append_any (by rfl) _ _ (by rfl) (by rfl) w.heap.size g3 k cap3 (entC (l.take k)) (by rfl) hown3 (some ⟨g, off + (k + 1) * 2, none⟩) (l.length - (k + 1)) _ (by rfl) (entC (l.drop (k + 1))) (N2.out.fr hF3 fun _ _ _ => id) (by omega) (by omega) hF3.size ?_
        intro g5 cap5 w5 hown5 hgrow5 hat5 hlt5
        have hF5 : Fr (fun _ => False) w w5 := hF3.into hgrow5 hb3
        have hz5 := hF5.frozen c9 hfz id
        have hc5 := hF5.cell c9 id))
  go_end0
  have hlen : (l.take k ++ l.drop (k + 1)).length = k + (l.length - (k + 1)) := by rw [List.length_append, HL1.out, HL2.out]
  have hb5 := (hown5.lt g5 rfl).1
  rw [← hlen, ← entC_append] at hown5
  rw [← hlen]
  have hE : EntsAt w5 A B (fun x => own x ∨ x = g5) _ (l.take k ++ l.drop (k + 1)) := EntsAt.of_own hown5 (by omega) (by omega) (.inr rfl)
  refine ⟨rfl, fun x => own x ∨ x = g5, ((H.out.fr hF5 fun _ _ _ => id).mono fun _ => .inl).setE d hd _ _ hE, fun _ => .inl, fun x hx => ?_, (hF5.mono fun _ _ h => h.elim).setB _ _⟩
  rcases hx with hx | hx
  ·exact .inl hx
  ·exact .inr (by omega)
end
section
open Go.RowKit Ino
def okB (c : UInt8) : Bool := !(decide (c < 32) || c == 127 || c == 47)
theorem drop_byte (s : ByteArray) (k : Nat) (h : k < s.size) : s.data.toList.drop k = s[k] :: s.data.toList.drop (k + 1) := by
 rw [List.drop_eq_getElem_cons (by simpa using h)]; rfl
def nmRel (s : ByteArray) (i : Value) : Prop := ∃ k : Nat, k ≤ s.size ∧ i = .int .i64 k ∧ (s.data.toList.drop k).all okB = s.data.toList.all okB
theorem nat_byte (c : UInt8) (n : Nat) (hn : n < 256) : (c == UInt8.ofNat n) = decide (c.toNat = n) := by
 by_cases h : c.toNat = n
 ·rw [decide_eq_true h, beq_iff_eq, ← h]; exact UInt8.ofNat_toNat.symm
 ·rw [decide_eq_false h, beq_eq_false_iff_ne]
  rintro rfl
  exact h (by simp; omega)
theorem okB_iff (c : UInt8) : okB c = (!decide (c.toNat < 32) && (!decide (c.toNat = 127) && !decide (c.toNat = 47))) := by
 unfold okB
 have h1 : decide (c < 32) = decide (c.toNat < 32) := by rw [decide_eq_decide, UInt8.lt_iff_toNat_lt]; rfl
 rw [h1, show (127 : UInt8) = UInt8.ofNat 127 from rfl, show (47 : UInt8) = UInt8.ofNat 47 from rfl, nat_byte c 127 (by decide), nat_byte c 47 (by decide)]
 cases decide (c.toNat < 32) <;> cases decide (c.toNat = 127) <;> cases decide (c.toNat = 47) <;> rfl
theorem nameOk_eq (l : Bs) : nameOk l = (decide (1 ≤ l.length ∧ l.length ≤ 14) && (l != [46] && (l != [46, 46] && l.all okB))) := rfl
theorem name_any (s : ByteArray) (hs : s.size ≤ maxLen) (w : World) :
 Calls Tryz.prog 125 #[.string s] w fun e w' => e = .returned (.bool (nameOk s.data.toList)) ∧ w = w' := by
 unfold maxLen at hs
 have hst : s.toList = s.data.toList := ByteArray.toList_eq s
 have hsl : s.data.toList.length = s.size := by simp
 have hre := nameOk_eq s.data.toList
 rw [hsl] at hre
 have Hre := hid hre
 clear hre hsl
 by_cases h1 : s.size < 1
 ·have Hr := hid (show nameOk s.data.toList = false by rw [Hre.out, decide_eq_false (by omega)]; rfl)
  clear hst
  go_enter Tryz.func125, Tryz.ntmps125
  go_wp2
  go_ret
  exact ⟨ret_bool Hr.out.symm, rfl⟩
 by_cases h14 : 14 < s.size
 ·have Hr := hid (show nameOk s.data.toList = false by rw [Hre.out, decide_eq_false (by omega)]; rfl)
  clear hst
  go_enter Tryz.func125, Tryz.ntmps125
  go_wp2
  go_ret
  exact ⟨ret_bool Hr.out.symm, rfl⟩
 cases q1 : (s.toList == [46])
 ·cases q2 : (s.toList == [46, 46])
  ·have Hr := hid (show nameOk s.data.toList = s.data.toList.all okB by
    rw [hst] at q1 q2
    rw [Hre.out, decide_eq_true (by omega), bne, bne, q1, q2]; rfl)
   clear hst
   go_enter Tryz.func125, Tryz.ntmps125
   go_wp2
   go_loop [3] (fun i => nmRel s i) (fun i => s.size - (intOf i).toNat)
   case atStart => exact ⟨0, Nat.zero_le _, rfl, rfl⟩
   case round =>
    obtain ⟨k, hk, rfl, hd⟩ := hrel
    by_cases hlt : k < s.size
    ·have hstep : (okB s[k] && (s.data.toList.drop (k + 1)).all okB) = s.data.toList.all okB := by rw [← hd, drop_byte s k hlt]; rfl
     rw [okB_iff] at hstep
     have Hstep := hid hstep
     clear hd hstep
     by_cases b32 : s[k].toNat < 32
     ·have Hf := hid (show s.data.toList.all okB = false by rw [← Hstep.out, decide_eq_true b32]; rfl)
      go_wp2
      go_ret
      exact ⟨ret_bool (by rw [Hr.out, Hf.out]), rfl⟩
     by_cases b127 : s[k].toNat = 127
     ·have Hf := hid (show s.data.toList.all okB = false by rw [← Hstep.out, decide_eq_true b127]; simp)
      have e1 : (((s[k].toNat : Int) == 127) : Bool) = true := by rw [b127]; rfl
      clear b127
      go_wp2
      go_ret
      exact ⟨ret_bool (by rw [Hr.out, Hf.out]), rfl⟩
     have e1 : (((s[k].toNat : Int) == 127) : Bool) = false := by rw [beq_eq_false_iff_ne]; omega
     by_cases b47 : s[k].toNat = 47
     ·have Hf := hid (show s.data.toList.all okB = false by rw [← Hstep.out, decide_eq_true b47]; simp)
      have e2 : (((s[k].toNat : Int) == 47) : Bool) = true := by rw [b47]; rfl
      clear b47 b127
      go_wp2
      go_ret
      exact ⟨ret_bool (by rw [Hr.out, Hf.out]), rfl⟩
     have e2 : (((s[k].toNat : Int) == 47) : Bool) = false := by rw [beq_eq_false_iff_ne]; omega
     have Hn := hid (show (s.data.toList.drop (k + 1)).all okB = s.data.toList.all okB by rw [← Hstep.out, decide_eq_false b32, decide_eq_false b127, decide_eq_false b47]; rfl)
     clear b127 b47
     go_wp2
     go_round
     case rel => exact ⟨k + 1, by omega, by go_num, Hn.out⟩
     case measure => simp [intOf]; omega
    ·have Hf := hid (show s.data.toList.all okB = true by rw [← hd, List.drop_of_length_le (by simp; omega)]; rfl)
     clear hd
     go_wp2
     go_ret
     exact ⟨ret_bool (by rw [Hr.out, Hf.out]), rfl⟩
  ·have Hr := hid (show nameOk s.data.toList = false by
    rw [hst] at q2
    rw [Hre.out, bne, bne, q2]; simp)
   clear hst
   go_enter Tryz.func125, Tryz.ntmps125
   go_wp2
   go_ret
   exact ⟨ret_bool Hr.out.symm, rfl⟩
 ·have Hr := hid (show nameOk s.data.toList = false by
   rw [hst] at q1
   rw [Hre.out, bne, q1]; simp)
  clear hst
  go_enter Tryz.func125, Tryz.ntmps125
  go_wp2
  go_ret
  exact ⟨ret_bool Hr.out.symm, rfl⟩
end
section
open Go.RowKit Ino
theorem Rt.refl' {W : World} {A B : Nat} {own : Nat → Prop} {t : T} (h : RT W A B own t) : Rt W A B own t W := ⟨own, h, fun _ => id, fun _ => .inl, Fr.refl _ _⟩
theorem removeP_at {t : T} {d : Nat} {n : Bs} (h1 : isI t (d : Int) = true) : removeP t (d : Int) n =
 if (t d).kind = 1 then
  match findE (t d).ents n with
  | none => (t, 3)
  | some x => if (t x).ents ≠ [] then (t, 8) else (goneP (rem t d n x), 0)
 else (t, 6) := by
 unfold removeP
 rw [if_pos h1]
 simp only [Int.toNat_natCast]
 rfl
theorem remove_any {A B : Nat} {own : Nat → Prop} {t : T} (dir : Int) (s : ByteArray) (w : World) (h : RT w A B own t) (hs : Sd t) :
 Calls Tryz.prog 91 #[.pointer (some ⟨A, 0, none⟩), .int .i64 dir, .string s] w fun e w' => e = .returned (.int .i64 (removeP t dir s.data.toList).2) ∧ Rt w A B own (removeP t dir s.data.toList).1 w' := by
 have htop := h.top
 have hc1 := is_any dir w h
 have H := hid h
 cases e1 : isI t dir
 ·rw [e1] at hc1
  have Hr := hid (show removeP t dir s.data.toList = (t, 3) by unfold removeP; rw [e1, if_neg Bool.false_ne_true])
  clear h e1 hs
  go_enter Tryz.func91, Tryz.ntmps91
  go_wp2_with (go_at_call 99; refine hc1.mono ?_; rintro e w' ⟨rfl, rfl⟩)
  go_ret
  exact ⟨ret_int (by rw [Hr.out]; rfl), by rw [Hr.out]; exact Rt.refl' H.out⟩
 rw [e1] at hc1
 obtain ⟨d, rfl, hd1, hd2, hdi⟩ := isI_nat e1
 have Hre := hid (removeP_at (n := s.data.toList) e1)
 obtain ⟨p, cap, -, c1, -, -, -, -, -, -, -, c9, hl1, hl2, he⟩ := h.cells d hd2
 have hat := at_any d s w h hd2 (hs.len d)
 have hlen40 := hs.len d
 clear e1
 cases kq : ((t d).kind == 1)
 ·have kq' : ((t d).kind != 1) = true := by rw [bne, kq]; rfl
  have Hr := hid (show removeP t (d : Int) s.data.toList = (t, 6) by rw [Hre.out, if_neg (ne_of_beq_false kq)])
  clear he hs h
  go_enter Tryz.func91, Tryz.ntmps91
  go_wp2_with (go_at_call 99; refine hc1.mono ?_; rintro e w' ⟨rfl, rfl⟩)
  go_ret
  exact ⟨ret_int (by rw [Hr.out]; rfl), by rw [Hr.out]; exact Rt.refl' H.out⟩
 have kq' : ((t d).kind != 1) = false := by rw [bne, kq]; rfl
 have Kd := hid (eq_of_beq kq)
 obtain ⟨f1, f2⟩ := atE_find (t d).ents s.data.toList
 cases ha : atE (t d).ents s.data.toList with
 | none =>
  have Hr := hid (show removeP t (d : Int) s.data.toList = (t, 3) by rw [Hre.out, if_pos Kd.out, f1.1 ha])
  rw [show atI (t d).ents s.data.toList = -1 by unfold atI; rw [ha]] at hat
  clear he hs h f1 f2 ha
  go_enter Tryz.func91, Tryz.ntmps91
  go_wp2_with (first | (go_at_call 99; refine hc1.mono ?_; rintro e w' ⟨rfl, rfl⟩) | (go_at_call 121; refine hat.mono ?_; rintro e w' ⟨rfl, rfl⟩))
  go_ret
  exact ⟨ret_int (by rw [Hr.out]; rfl), by rw [Hr.out]; exact Rt.refl' H.out⟩
 | some k =>
 obtain ⟨x, fx, lx, hk, her⟩ := f2 k ha
 rw [show atI (t d).ents s.data.toList = (k : Int) by unfold atI; rw [ha]] at hat
 have hx := hs.range x (hs.tgt d _ (findE_mem fx))
 obtain ⟨g, off, hp, -, -, -, v0, v1⟩ := he k _ lx
 simp only at v0 v1
 subst hp
 obtain ⟨px, capx, -, k1, -, -, -, -, -, k7, -, k9, -, -, -⟩ := h.cells x hx.2
 unfold maxLen at hl2
 have Hre2 := hid (show removeP t (d : Int) s.data.toList = if (t x).ents ≠ [] then (t, 8) else (goneP (rem t d s.data.toList x), 0) by rw [Hre.out, if_pos Kd.out, fx])
 have Fx := hid fx
 have Her := hid her
 have Hs := hid hs
 have hw := without_any d k w h hd2 hlen40 hk
 rw [← her] at hw
 have Hw := hid hw
 have hkx : (k : Int) < ((t d).ents.length : Int) := by omega
 clear he h f1 f2 ha fx lx her Hre hw hs
 by_cases h0 : 0 < (t x).ents.length
 ·have Hr := hid (show removeP t (d : Int) s.data.toList = (t, 8) by rw [Hre2.out, if_pos (fun e => by rw [e] at h0; exact absurd h0 (by decide))])
  go_enter Tryz.func91, Tryz.ntmps91
  go_wp2_with (first | (go_at_call 99; refine hc1.mono ?_; rintro e w' ⟨rfl, rfl⟩) | (go_at_call 121; refine hat.mono ?_; rintro e w' ⟨rfl, rfl⟩))
  go_ret
  exact ⟨ret_int (by rw [Hr.out]; rfl), by rw [Hr.out]; exact Rt.refl' H.out⟩
 have Hr := hid (show removeP t (d : Int) s.data.toList = (goneP (rem t d s.data.toList x), 0) by rw [Hre2.out, if_neg (fun e => e (List.length_eq_zero_iff.1 (by omega)))])
 have Hsd := hid (Hs.out.rem Fx.out)
 cases q2 : ((t x).kind == 1)
 ·have Hrem := hid (show setEnts t d (erE (t d).ents s.data.toList) = rem t d s.data.toList x by unfold rem; rw [setPar_not]; rw [setEnts_kind]; exact ne_of_beq_false q2)
  go_enter Tryz.func91, Tryz.ntmps91
  go_wp2_with (first | (go_at_call 99; refine hc1.mono ?_; rintro e w' ⟨rfl, rfl⟩) | (go_at_call 121; refine hat.mono ?_; rintro e w' ⟨rfl, rfl⟩))
  refine Hw.out.mono ?_
  rintro e w1 ⟨rfl, own', R1, o1, o2, F1⟩
  rw [Hrem.out] at R1
  have htop1 := R1.top
  obtain ⟨_, _, -, m1, -⟩ := R1.cells x hx.2
  rw [rem_kind] at m1
  have Hg := hid (gone_any w1 R1 Hsd.out)
  have O1 := hid o1
  have O2 := hid o2
  clear R1 o1 o2
  go_wp2_with (go_at_call 100; refine Hg.out.mono ?_; rintro e w2 ⟨rfl, R2, F2⟩)
  go_ret
  exact ⟨ret_int (by rw [Hr.out]; rfl), by rw [Hr.out]; exact ⟨own', R2, O1.out, O2.out, F1.trans (F2.mono fun _ _ h => h)⟩⟩
 ·go_enter Tryz.func91, Tryz.ntmps91
  go_wp2_with (first | (go_at_call 99; refine hc1.mono ?_; rintro e w' ⟨rfl, rfl⟩) | (go_at_call 121; refine hat.mono ?_; rintro e w' ⟨rfl, rfl⟩))
  refine Hw.out.mono ?_
  rintro e w1 ⟨rfl, own', R1, o1, o2, F1⟩
  have htop1 := R1.top
  obtain ⟨_, _, -, m1, -, -, -, -, -, m7, -⟩ := R1.cells x hx.2
  have mz := R1.frozen (x * 10 + 7)
  rw [setEnts_kind] at m1
  have Rp := R1.setPar x x hx.2 (by rw [setEnts_kind]; exact eq_of_beq q2)
  have Hg := hid (gone_any _ Rp Hsd.out)
  have O1 := hid o1
  have O2 := hid o2
  clear R1 o1 o2 Rp
  go_wp2_with (go_at_call 100; refine Hg.out.mono ?_; rintro e w2 ⟨rfl, R2, F2⟩)
  go_ret
  exact ⟨ret_int (by rw [Hr.out]; rfl), by rw [Hr.out]; exact ⟨own', R2, O1.out, O2.out, (F1.setB _ _).trans (F2.mono fun _ _ h => h)⟩⟩
end
section
open Go.RowKit Ino
def zeroInode : Value := .agg #[.bool false, .int .i64 0, .int .i64 0, .int .i64 0, .int .i64 0, .int .i64 0, .int .i64 0, .int .i64 0, .string ByteArray.empty, .slice none 0 0]
theorem infoInode : (Tryz.prog.info? 82).map (fun i => (i.zero, i.size, i.bytes)) = some (some zeroInode, 10, 104) := by kernel_rfl
theorem Fr.setNew {a b : World} (h : Fr (fun _ => False) a b) (o : Nat) (u : Value) : Fr (fun _ => False) a (b.setCell ⟨a.heap.size, o, none⟩ u) := h.setCell (p := ⟨a.heap.size, o, none⟩) (.inr (Nat.le_refl _)) u
theorem info_parts' {e : TypeId} {z : Value} {s b : Nat} (h : (Tryz.prog.info? e).map (fun i => (i.zero, i.size, i.bytes)) = some (some z, s, b)) : ∃ i, Tryz.prog.info? e = some i ∧ i.zero = some z ∧ i.size = s ∧ i.bytes = b := by
 cases hi : Tryz.prog.info? e with
 | none => rw [hi] at h; cases h
 | some i =>
  rw [hi] at h
  simp only [Option.map_some, Option.some.injEq, Prod.mk.injEq] at h
  exact ⟨i, rfl, h.1, h.2.1, h.2.2⟩
theorem make_row (W : World) : ∃ W1, (Instr.makeSlice 77 (.int .i64 201) (.int .i64 201)).run Tryz.prog W = .ok (.slice (some ⟨W.heap.size, 0, none⟩) 201 201) W1 ∧ W1.rowIs W.heap.size 82 2010 (treeF (fun _ => noN) fun _ => .slice none 0 0) ∧ Fr (fun _ => False) W W1 ∧ W1.heap.size = W.heap.size + 1 := by
 obtain ⟨i, hi, hz, hs, hb⟩ := info_parts' infoInode
 have hr := run_make (P := Tryz.prog) W 77 82 i zeroInode Tryz.underlying77 hi hz .i64 .i64 201 201 (by omega) (by omega) (by rw [hb]; omega) (by omega)
 refine ⟨_, hr, ?_, (Fr.refl _ W).alloc _, by simp⟩
 refine ⟨_, heap_alloc_new W _, ?_, fun o ho => ?_⟩
 ·simp [size_madeCells, hs]
 ·have ho2 : o % 10 < 10 := Nat.mod_lt _ (by decide)
  have hsz : (201 : Int).toNat * i.size = 2010 := by rw [hs]; rfl
  rw [hsz]
  unfold madeCells treeF
  rw [Array.getElem?_map, Array.getElem?_range, if_pos ho]
  show some (zeroInode.cells[o % 10]!) = some (cellV noN (.slice none 0 0) (o % 10))
  generalize o % 10 = r at ho2
  match r, ho2 with
  | 0, _ => rfl
  | 1, _ => rfl
  | 2, _ => rfl
  | 3, _ => rfl
  | 4, _ => rfl
  | 5, _ => rfl
  | 6, _ => rfl
  | 7, _ => rfl
  | 8, _ => rfl
  | 9, _ => rfl
theorem new_any (m o g : Int) (w : World) (hm : rMode m = true) (ho : rId o = true) (hg : rId g = true) :
 Calls Tryz.prog 10 #[.int .i64 m, .int .i64 o, .int .i64 g] w fun e w' => ∃ A B, e = .returned (.pointer (some ⟨A, 0, none⟩)) ∧ RT w' A B (fun x => w.heap.size ≤ x) (newP m o g) ∧ Fr (fun _ => False) w w' := by
 have h1 := fun W => mright_any m W
 have h2 := fun W => iid_any o W
 have h3 := fun W => iid_any g W
 rw [hm] at h1
 rw [ho] at h2
 rw [hg] at h3
 clear hm ho hg
 obtain ⟨W1, hmk, hrow, hF1, hsz1⟩ := make_row w
 have b0 := hrow.cell (i := 10) (by decide)
 have b1 := hrow.cell (i := 11) (by decide)
 have b2 := hrow.cell (i := 12) (by decide)
 have b3 := hrow.cell (i := 13) (by decide)
 have b4 := hrow.cell (i := 14) (by decide)
 have b5 := hrow.cell (i := 15) (by decide)
 have b6 := hrow.cell (i := 16) (by decide)
 have b7 := hrow.cell (i := 17) (by decide)
 have b8 := hrow.cell (i := 18) (by decide)
 have b9 := hrow.cell (i := 19) (by decide)
 have z0 := hrow.frozen 10
 have z1 := hrow.frozen 11
 have z2 := hrow.frozen 12
 have z3 := hrow.frozen 13
 have z4 := hrow.frozen 14
 have z5 := hrow.frozen 15
 have z6 := hrow.frozen 16
 have z7 := hrow.frozen 17
 have z8 := hrow.frozen 18
 have z9 := hrow.frozen 19
 have hlt1 := hrow.lt
 have R0 : RT (W1.alloc (.cells #[.slice (some ⟨w.heap.size, 0, none⟩) 201 201] 79)) W1.heap.size w.heap.size (fun x => w.heap.size ≤ x) (fun _ => noN) := by
  refine ⟨?_, by omega, by show w.heap.size ≤ _; omega, Nat.le_refl _, _, hrow.alloc _, fun i _ => EntsAt.nil _ _ _ _⟩
  rw [cell_of_row _ W1.heap.size 0 _ _ (0, 0) (heap_alloc_new W1 _)]
  rfl
 have hn := R0.set10 1 (by decide) (rootN m o g) (.slice none 0 0) (EntsAt.nil _ _ _ _)
 have hpast : ∀ (V : World) (i : Nat) (v : Value), w.heap.size < V.heap.size → (V.alloc (.cells #[.slice (some ⟨w.heap.size, 0, none⟩) 201 201] 79)).setCell ⟨w.heap.size, i, none⟩ v = (V.setCell ⟨w.heap.size, i, none⟩ v).alloc (.cells #[.slice (some ⟨w.heap.size, 0, none⟩) 201 201] 79) := fun V i v h => World.setCell_alloc_past _ _ _ _ h
 have hpast2 : ∀ (V : World) (i : Nat) (v : Value), w.heap.size < V.heap.size → w.heap.size < (V.setCell ⟨w.heap.size, i, none⟩ v).heap.size := fun V i v h => by simpa [World.setCell] using h
 have l1 := hpast2 _ (1 * 10) (.bool (rootN m o g).is) hlt1
 have l2 := hpast2 _ (1 * 10 + 1) (.int .i64 (rootN m o g).kind) l1
 have l3 := hpast2 _ (1 * 10 + 2) (.int .i64 (rootN m o g).mode) l2
 have l4 := hpast2 _ (1 * 10 + 3) (.int .i64 (rootN m o g).owner) l3
 have l5 := hpast2 _ (1 * 10 + 4) (.int .i64 (rootN m o g).group) l4
 have l6 := hpast2 _ (1 * 10 + 5) (.int .i64 (rootN m o g).tty) l5
 have l7 := hpast2 _ (1 * 10 + 6) (.int .i64 (rootN m o g).holds) l6
 have l8 := hpast2 _ (1 * 10 + 7) (.int .i64 (rootN m o g).parent) l7
 have l9 := hpast2 _ (1 * 10 + 8) (.string ⟨(rootN m o g).data.toArray⟩) l8
 rw [hpast _ _ _ hlt1, hpast _ _ _ l1, hpast _ _ _ l2, hpast _ _ _ l3, hpast _ _ _ l4, hpast _ _ _ l5, hpast _ _ _ l6, hpast _ _ _ l7, hpast _ _ _ l8, hpast _ _ _ l9] at hn
 have Hn := hid hn
 clear hn hpast hpast2 l1 l2 l3 l4 l5 l6 l7 l8 l9
 have HF1 := hid hF1
 have Hsz1 := hid hsz1
 clear R0 hrow hF1 hsz1
 go_enter Tryz.func10, Tryz.ntmps10
 go_wp2_with (first | (go_at_call 34; refine (h1 _).mono ?_; rintro e w' ⟨rfl, rfl⟩) | (go_at_call 35; (with_reducible refine (h2 _).mono ?_); rintro e w' ⟨rfl, rfl⟩) | (go_at_call 35; (with_reducible refine (h3 _).mono ?_); rintro e w' ⟨rfl, rfl⟩))
 go_ret
 have hsize : ∀ (V : World) (i : Nat) (v : Value), (V.setCell ⟨w.heap.size, i, none⟩ v).heap.size = V.heap.size := fun V i v => by simp [World.setCell]
 exact ⟨_, _, rfl, Hn.out, ((((((((((HF1.out.setNew _ _).setNew _ _).setNew _ _).setNew _ _).setNew _ _).setNew _ _).setNew _ _).setNew _ _).setNew _ _).setNew _ _).alloc _⟩
end
section
open Go.RowKit Ino
def infV (a : Inf × Bool) : Value := .tuple #[.agg #[.int .i64 a.1.ino, .int .i64 a.1.kind, .int .i64 a.1.mode, .int .i64 a.1.owner, .int .i64 a.1.group, .int .i64 a.1.links, .int .i64 a.1.size, .int .i64 a.1.tty], .bool a.2]
end
end Go.Proofs.YtlpececggkdhmaaGreat
