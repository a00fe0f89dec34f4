import Derived.Test.YtlpececggkdhmaaGreatRows
import Derived.WalkKit
import Derived.WalkSpells
import Derived.WalkLawsBesides
import Derived.Below
import Derived.Deep.OwnRows
import Derived.Deep.QuietTactic
import Derived.BigQuiet
import Derived.Lib.Hide
import Derived.Laws.OwnMore
import Derived.Laws.Rows
import Derived.Test.YtlpececggkdhmaaGreatM1
open Go.Lib (hid)
set_option linter.unusedVariables false
set_option linter.unusedSimpArgs false
set_option maxHeartbeats 2000000
set_option maxRecDepth 100000
namespace Go.Proofs.YtlpececggkdhmaaGreat
section
open Go.RowKit Ino
theorem ret_bool {a b : Bool} (h : a = b) : Ending.returned (.bool a) = .returned (.bool b) := by rw [h]
theorem ret_int {k : IntKind} {a b : Int} (h : a = b) : Ending.returned (.int k a) = .returned (.int k b) := by rw [h]
theorem cell_lt {w : World} {g j : Nat} {v : Value} (hc : w.cell? ⟨g, j, none⟩ = some v) : g < w.heap.size := by
 unfold World.cell? at hc
 cases ho : w.heap[g]? with
 | none => simp [ho] at hc
 | some o => exact (Array.getElem?_eq_some_iff.1 ho).1
structure Fr (S : Nat → Prop) (w w' : World) : Prop where
 os : w'.os = w.os
 tape : w'.tape = w.tape
 output : w'.output = w.output
 size : w.heap.size ≤ w'.heap.size
 block : ∀ k, k < w.heap.size → ¬ S k → w'.heap[k]? = w.heap[k]?
theorem Fr.refl (S : Nat → Prop) (w : World) : Fr S w w := ⟨rfl, rfl, rfl, Nat.le_refl _, fun _ _ _ => rfl⟩
theorem Fr.trans {S : Nat → Prop} {a b c : World} (h : Fr S a b) (k : Fr S b c) : Fr S a c :=
 ⟨k.os.trans h.os, k.tape.trans h.tape, k.output.trans h.output, Nat.le_trans h.size k.size, fun i hi hn => (k.block i (Nat.lt_of_lt_of_le hi h.size) hn).trans (h.block i hi hn)⟩
theorem Fr.mono {S S' : Nat → Prop} {a b : World} (h : Fr S a b) (hs : ∀ k, k < a.heap.size → S k → S' k) : Fr S' a b :=
 ⟨h.os, h.tape, h.output, h.size, fun i hi hn => h.block i hi fun k => hn (hs i hi k)⟩
theorem Fr.drewN {S : Nat → Prop} {a b : World} (h : Fr S a b) (n : Nat) : Fr S a (b.drewN n) := ⟨h.os, h.tape, h.output, h.size, h.block⟩
theorem Fr.drew {S : Nat → Prop} {a b : World} (h : Fr S a b) : Fr S a b.drew := ⟨h.os, h.tape, h.output, h.size, h.block⟩
theorem Fr.alloc {S : Nat → Prop} {a b : World} (h : Fr S a b) (o : Obj) : Fr S a (b.alloc o) :=
 ⟨h.os, h.tape, h.output, Nat.le_trans h.size (by simp), fun i hi hn => (Below.heap_alloc b o i (Nat.lt_of_lt_of_le hi h.size)).trans (h.block i hi hn)⟩
theorem Fr.setCell {S : Nat → Prop} {a b : World} (h : Fr S a b) {p : Addr} (hp : S p.block ∨ a.heap.size ≤ p.block) (u : Value) : Fr S a (b.setCell p u) :=
 ⟨h.os, h.tape, h.output, by simpa [World.setCell] using h.size, fun i hi hn => (Below.heap_setCell b p u i (by
  rintro rfl
  rcases hp with hp | hp
  ·exact hn hp
  ·omega)).trans (h.block i hi hn)⟩
theorem Fr.of_below {S : Nat → Prop} {a b : World} (h : Below a.heap.size a b) : Fr S a b := ⟨h.os, h.tape, h.output, h.size, fun i hi _ => h.block i hi⟩
theorem Fr.cell {S : Nat → Prop} {a b : World} (h : Fr S a b) {g o : Nat} {v : Value} (hc : a.cell? ⟨g, o, none⟩ = some v) (hn : ¬ S g) : b.cell? ⟨g, o, none⟩ = some v :=
 (World.cell?_of_block (h.block g (cell_lt hc) hn)).trans hc
def cellV (n : Nod) (v : Value) : Nat → Value
 | 0 => .bool n.is
 | 1 => .int .i64 n.kind
 | 2 => .int .i64 n.mode
 | 3 => .int .i64 n.owner
 | 4 => .int .i64 n.group
 | 5 => .int .i64 n.tty
 | 6 => .int .i64 n.holds
 | 7 => .int .i64 n.parent
 | 8 => .string ⟨n.data.toArray⟩
 | _ => v
def treeF (t : T) (ev : Nat → Value) (o : Nat) : Value := cellV (t (o / 10)) (ev (o / 10)) (o % 10)
theorem treeF_at (t : T) (ev : Nat → Value) (i j : Nat) (hj : j < 10) : treeF t ev (i * 10 + j) = cellV (t i) (ev i) j := by
 unfold treeF
 rw [show (i * 10 + j) / 10 = i by omega, show (i * 10 + j) % 10 = j by omega]
def EntsAt (W : World) (A B : Nat) (own : Nat → Prop) (v : Value) (l : List (Bs × Nat)) : Prop :=
 ∃ p cap, v = .slice p l.length cap ∧ l.length ≤ cap ∧ cap ≤ maxLen ∧ ∀ (j : Nat) (e : Bs × Nat), l[j]? = some e → ∃ g off, p = some ⟨g, off, none⟩ ∧ own g ∧ g ≠ A ∧ g ≠ B ∧
  W.cell? ⟨g, off + j * 2, none⟩ = some (.string ⟨e.1.toArray⟩) ∧ W.cell? ⟨g, off + j * 2 + 1, none⟩ = some (.int .i64 e.2)
theorem EntsAt.fr {W W' : World} {A B : Nat} {own own' S : Nat → Prop} {v : Value} {l : List (Bs × Nat)} (h : EntsAt W A B own v l) (hf : Fr S W W') (hs : ∀ g, own g → g ≠ A → g ≠ B → g < W.heap.size → ¬ S g) (ho : ∀ g, own g → own' g) : EntsAt W' A B own' v l := by
 obtain ⟨p, cap, h1, h2, h3, h4⟩ := h
 refine ⟨p, cap, h1, h2, h3, fun j e he => ?_⟩
 obtain ⟨g, off, k1, k2, k3, k4, k5, k6⟩ := h4 j e he
 have hn := hs g k2 k3 k4 (cell_lt k5)
 exact ⟨g, off, k1, ho g k2, k3, k4, hf.cell k5 hn, hf.cell k6 hn⟩
theorem EntsAt.nil (W : World) (A B : Nat) (own : Nat → Prop) : EntsAt W A B own (.slice none 0 0) [] := ⟨none, 0, rfl, Nat.le_refl _, Nat.zero_le _, fun j e he => by cases he⟩
structure RT (W : World) (A B : Nat) (own : Nat → Prop) (t : T) : Prop where
 top : W.cell? ⟨A, 0, none⟩ = some (.slice (some ⟨B, 0, none⟩) 201 201)
 ne : A ≠ B
 ownA : own A
 ownB : own B
 row : ∃ ev, W.rowIs B 82 2010 (treeF t ev) ∧ ∀ i, i ≤ 200 → EntsAt W A B own (ev i) (t i).ents
theorem RT.fr {W W' : World} {A B : Nat} {own S : Nat → Prop} {t : T} (h : RT W A B own t) (hf : Fr S W W') (hs : ∀ g, own g → g < W.heap.size → ¬ S g) : RT W' A B own t := by
 obtain ⟨ev, h1, h2⟩ := h.row
 refine ⟨hf.cell h.top (hs A h.ownA (cell_lt h.top)), h.ne, h.ownA, h.ownB, ev, h1.of_block (hf.block B h1.lt (hs B h.ownB h1.lt)), fun i hi => (h2 i hi).fr hf (fun g hg _ _ hl => hs g hg hl) fun _ hg => hg⟩
theorem RT.drewN {W : World} {A B : Nat} {own : Nat → Prop} {t : T} (h : RT W A B own t) (n : Nat) : RT (W.drewN n) A B own t := h.fr (S := fun _ => False) ((Fr.refl _ _).drewN n) fun _ _ _ => id
theorem RT.lt {W : World} {A B : Nat} {own : Nat → Prop} {t : T} (h : RT W A B own t) : A < W.heap.size ∧ B < W.heap.size := by
 obtain ⟨ev, h1, _⟩ := h.row
 exact ⟨cell_lt h.top, h1.lt⟩
theorem RT.cells {W : World} {A B : Nat} {own : Nat → Prop} {t : T} (h : RT W A B own t) (i : Nat) (hi : i ≤ 200) :
 ∃ p cap, W.cell? ⟨B, i * 10, none⟩ = some (.bool (t i).is) ∧ W.cell? ⟨B, i * 10 + 1, none⟩ = some (.int .i64 (t i).kind) ∧ W.cell? ⟨B, i * 10 + 2, none⟩ = some (.int .i64 (t i).mode) ∧ W.cell? ⟨B, i * 10 + 3, none⟩ = some (.int .i64 (t i).owner) ∧
  W.cell? ⟨B, i * 10 + 4, none⟩ = some (.int .i64 (t i).group) ∧ W.cell? ⟨B, i * 10 + 5, none⟩ = some (.int .i64 (t i).tty) ∧ W.cell? ⟨B, i * 10 + 6, none⟩ = some (.int .i64 (t i).holds) ∧ W.cell? ⟨B, i * 10 + 7, none⟩ = some (.int .i64 (t i).parent) ∧
  W.cell? ⟨B, i * 10 + 8, none⟩ = some (.string ⟨(t i).data.toArray⟩) ∧ W.cell? ⟨B, i * 10 + 9, none⟩ = some (.slice p (t i).ents.length cap) ∧ (t i).ents.length ≤ cap ∧ cap ≤ maxLen ∧
  ∀ (j : Nat) (e : Bs × Nat), (t i).ents[j]? = some e → ∃ g off, p = some ⟨g, off, none⟩ ∧ own g ∧ g ≠ A ∧ g ≠ B ∧ W.cell? ⟨g, off + j * 2, none⟩ = some (.string ⟨e.1.toArray⟩) ∧ W.cell? ⟨g, off + j * 2 + 1, none⟩ = some (.int .i64 e.2) := by
 obtain ⟨ev, h1, h2⟩ := h.row
 obtain ⟨p, cap, e1, e2, e3, e4⟩ := h2 i hi
 have key : ∀ j, j < 10 → W.cell? ⟨B, i * 10 + j, none⟩ = some (cellV (t i) (ev i) j) := fun j hj => by
  rw [h1.cell (by omega), treeF_at _ _ _ _ hj]
 refine ⟨p, cap, key 0 (by omega), key 1 (by omega), key 2 (by omega), key 3 (by omega), key 4 (by omega), key 5 (by omega), key 6 (by omega), key 7 (by omega), key 8 (by omega), ?_, e2, e3, e4⟩
 rw [key 9 (by omega), ← e1]; rfl
theorem RT.frozen {W : World} {A B : Nat} {own : Nat → Prop} {t : T} (h : RT W A B own t) (o : Nat) : W.frozen? ⟨B, o, none⟩ = false := by
 obtain ⟨ev, h1, _⟩ := h.row
 exact h1.frozen o
end
section
open Go.RowKit Ino
theorem is_any {A B : Nat} {own : Nat → Prop} {t : T} (i : Int) (w : World) (h : RT w A B own t) :
 Calls Tryz.prog 99 #[.pointer (some ⟨A, 0, none⟩), .int .i64 i] w fun e w' => e = .returned (.bool (isI t i)) ∧ w = w' := by
 have htop := h.top
 by_cases h1 : 1 ≤ i
 ·by_cases h2 : i ≤ 200
  ·obtain ⟨k, rfl⟩ : ∃ k : Nat, i = (k : Int) := ⟨i.toNat, by omega⟩
   obtain ⟨p, cap, c0, -⟩ := h.cells k (by omega)
   have Hr := hid (show isI t (k : Int) = (t k).is by unfold isI; rw [decide_eq_true ⟨h1, h2⟩, Int.toNat_natCast]; rfl)
   clear h
   generalize (t k).is = b at c0 Hr
   go_enter Tryz.func99, Tryz.ntmps99
   go_wp2
   go_ret
   exact ⟨ret_bool Hr.out.symm, rfl⟩
  ·have Hr := hid (show isI t i = false by unfold isI; rw [decide_eq_false (by omega)]; rfl)
   clear h
   go_enter Tryz.func99, Tryz.ntmps99
   go_wp2
   go_ret
   exact ⟨ret_bool Hr.out.symm, rfl⟩
 ·have Hr := hid (show isI t i = false by unfold isI; rw [decide_eq_false (by omega)]; rfl)
  clear h
  go_enter Tryz.func99, Tryz.ntmps99
  go_wp2
  go_ret
  exact ⟨ret_bool Hr.out.symm, rfl⟩
end
section
open Go.RowKit Ino
theorem linksTo_mono {t : T} {x : Nat} {i : Nat} : ∀ {j : Nat}, i ≤ j → linksTo i t x ≤ linksTo j t x
 | 0, h => by rw [show i = 0 by omega]; exact Nat.le_refl _
 | j + 1, h => by
  by_cases e : i = j + 1
  ·rw [e]; exact Nat.le_refl _
  ·have := linksTo_mono (t := t) (x := x) (show i ≤ j by omega)
   show _ ≤ linksTo j t x + _
   omega
theorem cnt_take_succ {l : List (Bs × Nat)} {k : Nat} {e : Bs × Nat} (h : l[k]? = some e) (x : Nat) : cnt (l.take (k + 1)) x = cnt (l.take k) x + (if e.2 = x then 1 else 0) := by
 rw [List.take_add_one, h, cnt_append]
 show _ + cnt [e] x = _
 rw [show [e] = [(e.1, e.2)] from rfl, cnt_one]
theorem cnt_take_le (l : List (Bs × Nat)) (k x : Nat) : cnt (l.take k) x ≤ cnt l x := by
 have : cnt (l.take k ++ l.drop k) x = cnt (l.take k) x + cnt (l.drop k) x := cnt_append _ _ _
 rw [List.take_append_drop] at this
 omega
theorem dir_any {A B : Nat} {own : Nat → Prop} {t : T} (i : Int) (w : World) (h : RT w A B own t) :
 Calls Tryz.prog 83 #[.pointer (some ⟨A, 0, none⟩), .int .i64 i] w fun e w' => e = .returned (.bool (isD t i)) ∧ w = w' := by
 have htop := h.top
 have hc := is_any i w h
 cases hi : isI t i
 ·rw [hi] at hc
  have Hr := hid (show isD t i = false by unfold isD; rw [hi]; rfl)
  clear h hi
  go_enter Tryz.func83, Tryz.ntmps83
  go_wp2_with (go_at_call 99; refine hc.mono ?_; rintro e w' ⟨rfl, rfl⟩)
  go_ret
  exact ⟨ret_bool Hr.out.symm, rfl⟩
 ·rw [hi] at hc
  have hr := (isI_iff.1 hi).1
  obtain ⟨k, rfl⟩ : ∃ k : Nat, i = (k : Int) := ⟨i.toNat, by omega⟩
  obtain ⟨p, cap, c0, c1, -⟩ := h.cells k (by omega)
  have Hr := hid (show isD t (k : Int) = decide ((t k).kind = 1) by unfold isD; rw [hi, Int.toNat_natCast]; rfl)
  clear h hi
  generalize (t k).kind = kd at c1 Hr
  go_enter Tryz.func83, Tryz.ntmps83
  go_wp2_with (go_at_call 99; refine hc.mono ?_; rintro e w' ⟨rfl, rfl⟩)
  go_ret
  exact ⟨ret_bool (by rw [Hr.out]; try rfl), rfl⟩
def lkRel (t : T) (x : Nat) (n i : Value) : Prop := ∃ k : Nat, 1 ≤ k ∧ k ≤ 201 ∧ i = .int .i64 k ∧ n = .int .i64 (linksTo k t x)
def lkRel2 (t : T) (x i : Nat) (n j : Value) : Prop := ∃ k : Nat, k ≤ (t i).ents.length ∧ j = .int .i64 k ∧ n = .int .i64 ((linksTo i t x + cnt ((t i).ents.take k) x : Nat) : Int)
theorem links_any {A B : Nat} {own : Nat → Prop} {t : T} (x : Nat) (w : World) (h : RT w A B own t) (hs : Sd t) :
 Calls Tryz.prog 101 #[.pointer (some ⟨A, 0, none⟩), .int .i64 x] w fun e w' => e = .returned (.int .i64 (links t x)) ∧ w = w' := by
 have htop := h.top
 have H := hid h
 have Hs := hid hs
 clear h hs
 go_enter Tryz.func101, Tryz.ntmps101
 go_wp2
 go_loop [5, 6] (fun n i => lkRel t x n i) (fun _ i => 201 - (intOf i).toNat)
 case atStart =>
  refine ⟨1, Nat.le_refl _, by decide, rfl, ?_⟩
  show _ = Value.int .i64 ((0 + cnt (t 0).ents x : Nat) : Int)
  rw [Hs.out.zero]; rfl
 case round =>
  obtain ⟨i, hi1, hi2, rfl, rfl⟩ := hrel
  by_cases hlt : i < 201
  ·obtain ⟨p, cap, -, -, -, -, -, -, -, -, -, c9, hl1, hl2, he⟩ := H.out.cells i (by omega)
   have hlen := Hs.out.len i
   have h8 := Hs.out.eight x
   have hm := linksTo_mono (t := t) (x := x) (show i + 1 ≤ 201 by omega)
   have hm2 : linksTo (i + 1) t x = linksTo i t x + cnt (t i).ents x := rfl
   have hm3 : linksTo 201 t x ≤ 8 := h8
   have Hm2 := hid hm2
   have hb : linksTo i t x + cnt (t i).ents x ≤ 8 := by rw [hm2] at hm; omega
   have He := hid he
   unfold maxLen at hl2
   clear he hm2 hm hm3 h8
   go_wp2
   go_loop [5, 7] (fun n j => lkRel2 t x i n j) (fun _ j => (t i).ents.length - (intOf j).toNat)
   case atStart => exact ⟨0, Nat.zero_le _, rfl, by simp [cnt_nil]⟩
   case round =>
    obtain ⟨k, hk, rfl, rfl⟩ := hrel
    have hcl := cnt_take_le (t i).ents k x
    by_cases hk2 : k < (t i).ents.length
    ·have hek : (t i).ents[k]? = some (t i).ents[k] := List.getElem?_eq_getElem hk2
     obtain ⟨g, off, hp, -, -, -, e0, e1⟩ := He.out k _ hek
     have hts := cnt_take_succ hek x
     have hcl2 := cnt_take_le (t i).ents (k + 1) x
     generalize (t i).ents[k] = en at hek e0 e1 hts
     obtain ⟨nm, y⟩ := en
     simp only at e0 e1 hts
     subst hp
     have Hts := hid hts
     clear hts hek
     by_cases hy : y = x
     ·have hy' : (((y : Int) == (x : Int)) : Bool) = true := by simp [hy]
      have Hy := hid hy
      clear hy
      go_wp2
      go_round
      case rel => exact ⟨k + 1, by omega, by go_num, by rw [Hts.out, if_pos Hy.out]; go_num⟩
      case measure => simp [intOf]; omega
     ·have hy' : (((y : Int) == (x : Int)) : Bool) = false := by simp; omega
      have Hy := hid hy
      clear hy
      go_wp2
      go_round
      case rel => exact ⟨k + 1, by omega, by go_num, by rw [Hts.out, if_neg Hy.out, Nat.add_zero]⟩
      case measure => simp [intOf]; omega
    ·go_wp2
     go_round
     case rel => exact ⟨i + 1, by omega, by omega, by go_num, by rw [Hm2.out, List.take_of_length_le (by omega)]⟩
     case measure => simp [intOf]; omega
  ·have e : i = 201 := by omega
   subst e
   go_wp2
   go_ret
   exact ⟨rfl, rfl⟩
end
section
open Go.RowKit Ino
def atE : List (Bs × Nat) → Bs → Option Nat
 | [], _ => none
 | e :: l, n => if e.1 = n then some 0 else (atE l n).map (· + 1)
theorem atE_find : ∀ (l : List (Bs × Nat)) (n : Bs), (atE l n = none ↔ findE l n = none) ∧ ∀ k, atE l n = some k → ∃ x, findE l n = some x ∧ l[k]? = some (n, x) ∧ k < l.length ∧ erE l n = l.take k ++ l.drop (k + 1)
 | [], n => ⟨by simp [atE, findE], fun k h => by cases h⟩
 | e :: l, n => by
  obtain ⟨h1, h2⟩ := atE_find l n
  unfold atE findE erE
  by_cases he : e.1 = n
  ·rw [if_pos he, if_pos he, if_pos he]
   refine ⟨by simp, fun k hk => ?_⟩
   cases hk
   exact ⟨e.2, rfl, by rw [← he]; rfl, Nat.zero_lt_succ _, rfl⟩
  ·rw [if_neg he, if_neg he, if_neg he]
   refine ⟨by rw [← h1]; simp, fun k hk => ?_⟩
   obtain ⟨k', hk', rfl⟩ := Option.map_eq_some_iff.1 hk
   obtain ⟨x, a1, a2, a3, a4⟩ := h2 k' hk'
   exact ⟨x, a1, by simpa using a2, by simpa using a3, by rw [a4]; rfl⟩
def atI (l : List (Bs × Nat)) (n : Bs) : Int := match atE l n with | some k => (k : Int) | none => -1
theorem atE_hit : ∀ (l : List (Bs × Nat)) (n : Bs) (k : Nat) (x : Nat), l[k]? = some (n, x) → (∀ (j : Nat) (e : Bs × Nat), j < k → l[j]? = some e → e.1 ≠ n) → atE l n = some k
 | [], _, _, _, h, _ => by simp at h
 | e :: l, n, 0, x, h, _ => by
  simp at h
  subst h
  unfold atE
  rw [if_pos rfl]
 | e :: l, n, k + 1, x, h, hn => by
  unfold atE
  rw [if_neg (hn 0 e (by omega) rfl), atE_hit l n k x (by simpa using h) (fun j e' hj he => hn (j + 1) e' (by omega) (by simpa using he))]
  rfl
theorem atE_miss : ∀ (l : List (Bs × Nat)) (n : Bs), (∀ (j : Nat) (e : Bs × Nat), l[j]? = some e → e.1 ≠ n) → atE l n = none
 | [], _, _ => rfl
 | e :: l, n, hn => by
  unfold atE
  rw [if_neg (hn 0 e rfl), atE_miss l n (fun j e' he => hn (j + 1) e' (by simpa using he))]
  rfl
theorem str_eq (a : Bs) (s : ByteArray) : ((a == s.toList) : Bool) = decide (a = s.data.toList) := by
 rw [ByteArray.toList_eq]
 by_cases h : a = s.data.toList
 ·rw [decide_eq_true h, h]; simp
 ·rw [decide_eq_false h]; simp [h]
def aRel (l : List (Bs × Nat)) (n : Bs) (i : Value) : Prop := ∃ k : Nat, k ≤ l.length ∧ i = .int .i64 k ∧ ∀ (j : Nat) (e : Bs × Nat), j < k → l[j]? = some e → e.1 ≠ n
theorem at_any {A B : Nat} {own : Nat → Prop} {t : T} (d : Nat) (s : ByteArray) (w : World) (h : RT w A B own t) (hd : d ≤ 200) (hl40 : (t d).ents.length ≤ 40) :
 Calls Tryz.prog 121 #[.pointer (some ⟨A, 0, none⟩), .int .i64 d, .string s] w fun e w' => e = .returned (.int .i64 (atI (t d).ents s.data.toList)) ∧ w = w' := by
 have htop := h.top
 obtain ⟨p, cap, -, -, -, -, -, -, -, -, -, c9, hl1, hl2, he⟩ := h.cells d hd
 clear h
 generalize (t d).ents = l at c9 hl1 he hl40
 have He := hid he
 unfold maxLen at hl2
 clear he
 go_enter Tryz.func121, Tryz.ntmps121
 go_wp2
 go_loop [7] (fun i => aRel l s.data.toList i) (fun i => l.length - (intOf i).toNat)
 case atStart => exact ⟨0, Nat.zero_le _, rfl, fun j e h => absurd h (Nat.not_lt_zero _)⟩
 case round =>
  obtain ⟨k, hk, rfl, hno⟩ := hrel
  have Hno := hid hno
  clear hno
  by_cases hk2 : k < l.length
  ·have hek : l[k]? = some l[k] := List.getElem?_eq_getElem hk2
   obtain ⟨g, off, hp, -, -, -, e0, e1⟩ := He.out k _ hek
   generalize l[k] = en at hek e0 e1
   obtain ⟨nm, y⟩ := en
   simp only at e0 e1
   subst hp
   have hq := str_eq nm s
   have Hek := hid hek
   clear hek
   by_cases hy : nm = s.data.toList
   ·rw [decide_eq_true hy] at hq
    have Hr := hid (show atI l s.data.toList = (k : Int) by unfold atI; rw [atE_hit l _ k y (by rw [← hy]; exact Hek.out) Hno.out])
    clear hy
    go_wp2
    go_ret
    exact ⟨ret_int Hr.out.symm, rfl⟩
   ·rw [decide_eq_false hy] at hq
    have Hy := hid hy
    clear hy
    go_wp2
    go_round
    case rel =>
     refine ⟨k + 1, by omega, by go_num, fun j e hj he => ?_⟩
     by_cases ej : j = k
     ·subst ej; rw [Hek.out] at he; cases he; exact Hy.out
     ·exact Hno.out j e (by omega) he
    case measure => simp [intOf]; omega
  ·have Hr := hid (show atI l s.data.toList = -1 by unfold atI; rw [atE_miss l _ (fun j e he => Hno.out j e (by have := (List.getElem?_eq_some_iff.1 he).1; omega) he)])
   go_wp2
   go_ret
   exact ⟨ret_int Hr.out.symm, rfl⟩
def wiRel (t : T) (d x : Nat) (dv iv : Value) : Prop := ∃ i : Nat, i ≤ 201 ∧ iv = .int .i64 i ∧ dv = .int .i64 (iter t i d) ∧ ∀ m, m < i → iter t m d ≠ x
theorem within_any {A B : Nat} {own : Nat → Prop} {t : T} (d x : Nat) (b : Bool) (w : World) (h : RT w A B own t) (hs : Sd t) (hd : (t d).kind = 1) (hb : b = true ↔ Within t d x) :
 Calls Tryz.prog 126 #[.pointer (some ⟨A, 0, none⟩), .int .i64 d, .int .i64 x] w fun e w' => e = .returned (.bool b) ∧ w = w' := by
 have htop := h.top
 have H := hid h
 have Hs := hid hs
 have Hd := hid hd
 have Hb := hid hb
 clear h hs hd hb
 go_enter Tryz.func126, Tryz.ntmps126
 go_wp2
 go_loop [1, 7] (fun dv iv => wiRel t d x dv iv) (fun _ iv => 201 - (intOf iv).toNat)
 case atStart => exact ⟨0, Nat.zero_le _, rfl, rfl, fun m h => absurd h (Nat.not_lt_zero _)⟩
 case round =>
  obtain ⟨i, hi, rfl, rfl, hno⟩ := hrel
  have Hno := hid hno
  clear hno
  by_cases hlt : i < 201
  ·have hk := Hs.out.ups Hd.out i
   have hr := Hs.out.dir_range hk
   obtain ⟨p, cap, -, -, -, -, -, -, -, c7, -⟩ := H.out.cells (iter t i d) hr.2
   have Hi := hid (show (t (iter t i d)).parent = iter t (i + 1) d from (iter_succ t i d).symm)
   have Hy := hid (show iter t i d = iter t i d from rfl)
   obtain ⟨y, hy⟩ : ∃ y, iter t i d = y := ⟨_, rfl⟩
   obtain ⟨z, hz⟩ : ∃ z, iter t (i + 1) d = z := ⟨_, rfl⟩
   rw [Hi.out, hz, hy] at c7
   rw [hy] at hr ⊢
   have HY := hid hy
   have HZ := hid hz
   clear hk hy hz Hy Hi
   by_cases h1 : y = x
   ·have h1' : (((y : Int) == (x : Int)) : Bool) = true := by simp [h1]
    have Hr := hid (show b = true from Hb.out.2 ⟨i, HY.out.trans h1⟩)
    clear h1
    go_wp2
    go_ret
    exact ⟨ret_bool Hr.out.symm, rfl⟩
   ·have h1' : (((y : Int) == (x : Int)) : Bool) = false := by simp; omega
    have H1 := hid h1
    clear h1
    by_cases h2 : y = 1
    ·have h2' : (((y : Int) == 1) : Bool) = true := by simp [h2]
     have Hr := hid (show b = false by
      cases hb : b
      ·rfl
      ·obtain ⟨n, hn⟩ := Hb.out.1 hb
       by_cases e : n < i
       ·exact absurd hn (Hno.out n e)
       ·rw [show n = i + (n - i) by omega, iter_add, HY.out, h2, iter_fix (show Fix t 1 from Hs.out.root_par)] at hn
        exact absurd (h2.trans hn) H1.out)
     clear h2
     go_wp2
     go_ret
     exact ⟨ret_bool Hr.out.symm, rfl⟩
    ·have h2' : (((y : Int) == 1) : Bool) = false := by simp; omega
     clear h2
     go_wp2
     go_round
     case rel =>
      refine ⟨i + 1, by omega, by go_num, by rw [HZ.out], fun m hm => ?_⟩
      by_cases e : m = i
      ·subst e; rw [HY.out]; exact H1.out
      ·exact Hno.out m (by omega)
     case measure => simp [intOf]; omega
  ·have Hr := hid (show b = false by
    cases hb : b
    ·rfl
    ·obtain ⟨n, hn, he⟩ := Hs.out.within_bound Hd.out (Hb.out.1 hb)
     exact absurd he (Hno.out n (by omega)))
   go_wp2
   go_ret
   exact ⟨ret_bool Hr.out.symm, rfl⟩
end
end Go.Proofs.YtlpececggkdhmaaGreat
