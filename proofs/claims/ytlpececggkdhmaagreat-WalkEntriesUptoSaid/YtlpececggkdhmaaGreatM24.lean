import Derived.RangeFuncNested
import Derived.RangeFuncBound
import Derived.RangeFuncCalls
import Derived.RangeFuncLeaves
import Derived.RangeFuncBox
import Derived.Shelf.Abstract
import Derived.Shelf.RegionOpen
import Derived.WalkKit
import Derived.WalkSpells
import Derived.WalkLawsBesides
import Derived.OwnWalkIn
import Derived.TacticsInMore
import Derived.LoopNIn
import Derived.LoopIn
import Derived.Maps.AppendAt
import Derived.Deep.QuietTactic
import Derived.BigQuiet
import Derived.Lib.Hide
import Derived.Below
import Derived.Test.YtlpececggkdhmaaGreatProg
import Derived.Test.YtlpececggkdhmaaGreatRows
import Derived.Test.YtlpececggkdhmaaGreatShelf
import Derived.Lib.IndexLaws
import Derived.Lib.LastIndexByte
import Derived.Test.YtlpececggkdhmaaGreatM22
open Go.Lib (hid)
set_option linter.unusedVariables false
set_option linter.unusedSimpArgs false
set_option maxHeartbeats 800000
namespace Go.Proofs.YtlpececggkdhmaaGreat.Pa
open Go.RowKit Go.Shelf
theorem ret_val {a b : Value} (h : a = b) : Ending.returned a = .returned b := by rw [h]
theorem ret_bool {a b : Bool} (h : a = b) : Ending.returned (.bool a) = .returned (.bool b) := by rw [h]
theorem ret_int {k : IntKind} {a b : Int} (h : a = b) : Ending.returned (.int k a) = .returned (.int k b) := by rw [h]
theorem drop_eq (s : ByteArray) (k : Nat) (h : k < s.size) : s.data.toList.drop k = s[k] :: s.data.toList.drop (k + 1) := by
 rw [List.drop_eq_getElem_cons (by simpa using h)]; rfl
theorem u8_true (c d : UInt8) (h : c = d) : (((c.toNat : Int) == (d.toNat : Int)) : Bool) = true := by rw [h]; simp
theorem u8_false (c d : UInt8) (h : ¬ c = d) : (((c.toNat : Int) == (d.toNat : Int)) : Bool) = false := by
 rw [beq_eq_false_iff_ne]; intro e; exact h (UInt8.toNat_inj.1 (by omega))
theorem u8_ne (c d : UInt8) (h : ¬ c = d) : (((c.toNat : Int) != (d.toNat : Int)) : Bool) = true := by rw [bne, u8_false _ _ h]; rfl
theorem u8_nn (c d : UInt8) (h : c = d) : (((c.toNat : Int) != (d.toNat : Int)) : Bool) = false := by rw [bne, u8_true _ _ h]; rfl
def Dr (w w' : World) : Prop := ∃ n, w' = w.drewN n
theorem Dr.refl (w : World) : Dr w w := ⟨0, rfl⟩
theorem Dr.trans {a b c : World} (h : Dr a b) (g : Dr b c) : Dr a c := by
 obtain ⟨n, rfl⟩ := h; obtain ⟨m, rfl⟩ := g; exact ⟨n + m, by simp [World.drewN]; try omega⟩
theorem size_len (s : ByteArray) : s.data.toList.length = s.size := by simp
theorem str_eq {s : ByteArray} {l : List UInt8} (h : s.toList = l) : s = ⟨l.toArray⟩ := by
 rw [ByteArray.toList_eq] at h; subst h; rfl
def strV (l : List UInt8) : Value := .string ⟨l.toArray⟩
theorem isEmpty_of {t : ByteArray} (h : t.data.toList = []) : t.toList.isEmpty = true := by rw [ByteArray.toList_eq, h]; rfl
theorem isEmpty_no {t : ByteArray} (h : t.data.toList ≠ []) : t.toList.isEmpty = false := by
 rw [ByteArray.toList_eq]; cases hh : t.data.toList with
 | nil => exact absurd hh h
 | cons a b => rfl
theorem toL (l : List UInt8) : (⟨l.toArray⟩ : ByteArray).toList = l := by rw [ByteArray.toList_eq]
theorem extract_take (s : ByteArray) (k : Nat) : s.extract 0 k = ⟨(s.data.toList.take k).toArray⟩ := by
 apply ByteArray.ext
 rw [ByteArray.data_extract]
 apply Array.toList_inj.1
 simp [Array.toList_extract, List.extract]
theorem extract_drop (s : ByteArray) (k : Nat) : s.extract k s.size = ⟨(s.data.toList.drop k).toArray⟩ := by
 apply ByteArray.ext
 rw [ByteArray.data_extract]
 apply Array.toList_inj.1
 simp [Array.toList_extract, List.extract]
 rw [List.take_of_length_le (by simp)]
theorem cell_lt {w : World} {g j : Nat} {v : Value} (hc : w.cell? ⟨g, j, none⟩ = some v) : g < w.heap.size := by
 unfold World.cell? at hc
 cases ho : w.heap[g]? with
 | none => simp [ho] at hc
 | some o => exact (Array.getElem?_eq_some_iff.1 ho).1
def Blk (W : World) (B : Nat) (t : TypeId) (cs : Array Value) : Prop := W.heap[B]? = some (.cells cs t (0, 0))
theorem Blk.lt {W : World} {B : Nat} {t : TypeId} {cs : Array Value} (h : Blk W B t cs) : B < W.heap.size := (Array.getElem?_eq_some_iff.1 h).1
theorem Blk.cell {W : World} {B : Nat} {t : TypeId} {cs : Array Value} (h : Blk W B t cs) (k : Nat) : W.cell? ⟨B, k, none⟩ = cs[k]? := by
 simp [World.cell?, show W.heap[B]? = _ from h]
theorem Blk.frozen {W : World} {B : Nat} {t : TypeId} {cs : Array Value} (h : Blk W B t cs) (k : Nat) : W.frozen? ⟨B, k, none⟩ = false := by
 simp [World.frozen?, show W.heap[B]? = _ from h]
theorem Blk.new (W : World) (t : TypeId) (cs : Array Value) : Blk (W.alloc (.cells cs t)) W.heap.size t cs := World.alloc_heap_new W _
theorem Blk.kept {W W' : World} {row : Option Nat} {B : Nat} {t : TypeId} {cs : Array Value} (h : Blk W B t cs) (hg : W.grownBy W' row) (hne : some B ≠ row) : Blk W' B t cs := (hg.block B h.lt hne).trans h
theorem Blk.below {W W' : World} {B n : Nat} {t : TypeId} {cs : Array Value} (h : Blk W B t cs) (hb : Below n W W') (hB : B < n) : Blk W' B t cs := (hb.block B hB).trans h
theorem Blk.alloc {W : World} {B : Nat} {t : TypeId} {cs : Array Value} (h : Blk W B t cs) (o : Obj) : Blk (W.alloc o) B t cs := h.kept (World.grownBy_alloc W o none) (by simp)
theorem Blk.set {W : World} {B : Nat} {t : TypeId} {cs : Array Value} (h : Blk W B t cs) (k : Nat) (v : Value) : Blk (W.setCell ⟨B, k, none⟩ v) B t (cs.setIfInBounds k v) := by
 obtain ⟨hlt, hk⟩ := Array.getElem?_eq_some_iff.1 h
 show (W.heap.modify B _)[B]? = _
 rw [Array.getElem?_eq_getElem (by rw [Array.size_modify]; exact hlt), Array.getElem_modify_self, hk]
 rfl
theorem grownBy_setAt (W : World) (b k : Nat) (v : Value) : W.grownBy (W.setCell ⟨b, k, none⟩ v) (some b) :=
 ⟨rfl, rfl, rfl, (KeepsWalks.setCell W _ v).size, fun j _ hj => Below.heap_setCell _ _ _ j (fun e => hj (by rw [e]))⟩
theorem Blk.other {W : World} {B : Nat} {t : TypeId} {cs : Array Value} (h : Blk W B t cs) (b k : Nat) (v : Value) (hne : B ≠ b) : Blk (W.setCell ⟨b, k, none⟩ v) B t cs :=
 h.kept (grownBy_setAt W b k v) (fun e => hne (Option.some.inj e))
theorem Boxed.blk {W : World} {B : Nat} {t : TypeId} {v : Value} (h : Boxed W B t v) : Blk W B t #[v] := h
theorem Blk.putObj {W : World} {B l : Nat} {t : TypeId} {cs : Array Value} {o : Obj} (h : Blk W B t cs) (o' : Obj) (hl : W.heap[l]? = some o) (ho : o.isCells = false) : Blk (W.putObj l o') B t cs :=
 h.kept (grownBy_putObj' W l o') (fun e => by
  obtain rfl := Option.some.inj e
  rw [show W.heap[B]? = _ from h] at hl; cases hl; cases ho)
theorem blk_own {β : Type} (B : Nat) (t : TypeId) (f : β → Array Value) : Own (fun s W => Blk W B t (f s)) := fun s X Y row h hg hrow =>
 h.kept hg (fun e => by
  obtain ⟨o, ho, hc⟩ := hrow B e.symm
  rw [show X.heap[B]? = _ from h] at ho; cases ho; cases hc)
theorem Own.and2 {β : Type} {I J : β → World → Prop} (h : Own I) (g : Own J) : Own (fun s W => I s W ∧ J s W) := fun s A B row hs hg hr => ⟨h s A B row hs.1 hg hr, g s A B row hs.2 hg hr⟩
theorem own_pure {β : Type} (p : β → Prop) : Own (fun (s : β) (_ : World) => p s) := fun _ _ _ _ hs _ _ => hs
theorem row_other {W : World} {base : Nat} {e : TypeId} {size : Nat} {v : Value} {n : Nat} {xs : List Value} {B : Nat} {t : TypeId} {cs : Array Value} (h : W.ownsRow base e size v n xs) (hB : Blk W B t cs) (hte : t ≠ e) (k : Nat) (u : Value) :
 (W.setCell ⟨B, k, none⟩ u).ownsRow base e size v n xs := by
 refine h.kept (grownBy_setAt W B k u) ?_
 rcases h.2 with ⟨rfl, _⟩ | ⟨g, cap, cur, rfl, _, hgb, _⟩
 ·exact .inl rfl
 ·refine .inr fun e' => ?_
  obtain rfl : g = B := by simpa [Value.ownBlock] using e'
  rw [show W.heap[g]? = _ from hB] at hgb
  simp at hgb
  exact hte hgb.2
end Go.Proofs.YtlpececggkdhmaaGreat.Pa
namespace Go.Proofs.YtlpececggkdhmaaGreat.Pa
open Go.RowKit Go.Shelf
structure UpW (w0 : World) where
 w : World
 le : Below w0.heap.size w0 w
instance (w0 : World) : Inhabited (UpW w0) := ⟨⟨w0, Below.refl _ _⟩⟩
theorem wp_region_up {P : Program} {id : Nat} {Q : Exit → Act → World → Prop} {a : Act} {w : World} {l : List Oper} (hm : P.follows .mixedOrders = true) (hB : Region.lexB .any l.toArray = true)
 (h : wpQuiet P l.toArray (fun w' => ∃ p : UpW w, w' = p.w) (fun a' => ∀ w', (∃ p : UpW w, w' = p.w) → Q .normal a' w') l a) : (Code.region id l.toArray true).wp P Q a w :=
 wp_region_quiet (C := fun w' => ∃ p : UpW w, w' = p.w) hm hB ⟨⟨w.drew, (Below.refl _ w).drew⟩, rfl⟩ (by simpa using h)
theorem Calls.up_of {P : Program} {f : FuncId} {args : Array Value} {w0 : World} {p : UpW w0} {v : Value}
 (h : Calls P f args p.w fun e w' => e = .returned v ∧ Below p.w.heap.size p.w w') : Calls P f args p.w fun e w'' => e = .returned v ∧ ∃ q : UpW w0, w'' = q.w :=
 h.mono fun _ w' ⟨he, hb⟩ => ⟨he, ⟨w', p.le.trans (hb.mono p.le.size)⟩, rfl⟩
theorem Calls.up_of_eq {P : Program} {f : FuncId} {args : Array Value} {w0 : World} {p : UpW w0} {v : Value}
 (h : Calls P f args p.w fun e w' => e = .returned v ∧ p.w = w') : Calls P f args p.w fun e w'' => e = .returned v ∧ ∃ q : UpW w0, w'' = q.w :=
 h.mono fun _ _ ⟨he, hb⟩ => ⟨he, p, hb.symm⟩
theorem up_cell {w0 : World} {b o : Nat} {v : Value} (h : w0.cell? ⟨b, o, none⟩ = some v) (p : UpW w0) : p.w.cell? ⟨b, o, none⟩ = some v :=
 (p.le.cell (p := ⟨b, o, none⟩) (cell_lt h)).trans h
end Go.Proofs.YtlpececggkdhmaaGreat.Pa
namespace Go.Proofs.YtlpececggkdhmaaGreat.Pa
open Go.RowKit
theorem bad_step (s : ByteArray) (k : Nat) (h : k < s.size) (hb : badC s[k] = false) : anyBad (s.data.toList.drop k) = anyBad (s.data.toList.drop (k + 1)) := by
 unfold anyBad; rw [drop_eq s k h, List.any_cons, hb, Bool.false_or]
theorem bad_stop (s : ByteArray) (k : Nat) (h : k < s.size) (hb : badC s[k] = true) : anyBad (s.data.toList.drop k) = true := by
 unfold anyBad; rw [drop_eq s k h, List.any_cons, hb, Bool.true_or]
theorem bad_end (s : ByteArray) (k : Nat) (h : s.size ≤ k) : anyBad (s.data.toList.drop k) = false := by
 rw [List.drop_of_length_le (by simpa using h)]; rfl
def badRel (s : ByteArray) (i : Value) : Prop := ∃ k : Nat, k ≤ s.size ∧ i = .int .i64 k ∧ anyBad (s.data.toList.drop k) = anyBad s.data.toList
theorem bad_any (s : ByteArray) (hs : s.size ≤ maxLen) (w : World) :
 Calls Tryz.prog 77 #[.string s] w fun e w' => e = .returned (.bool (anyBad s.data.toList)) ∧ w = w' := by
 unfold maxLen at hs
 go_enter Tryz.func77, Tryz.ntmps77
 go_wp2
 go_loop [6] (fun i => badRel s i) (fun i => s.size - (intOf i).toNat)
 case atStart => exact ⟨0, Nat.zero_le _, rfl, rfl⟩
 case round =>
  obtain ⟨k, hk, rfl, hn⟩ := hrel
  have Hn := hid hn; clear hn
  by_cases hlt : k < s.size
  ·cases hb : badC s[k]
   ·have Hs := hid ((bad_step s k hlt hb).symm.trans Hn.out)
    have h32 : ¬ (s[k].toNat : Int) < 32 := by unfold badC at hb; simp at hb; omega
    have h127 : (((s[k].toNat : Int) == 127) : Bool) = false := by
     unfold badC at hb; simp at hb
     rw [beq_eq_false_iff_ne]; omega
    clear hb
    go_wp2
    go_round
    case rel => exact ⟨k + 1, by omega, by go_num, Hs.out⟩
    case measure => simp [intOf]; omega
   ·have Hr := hid ((bad_stop s k hlt hb).symm.trans Hn.out)
    by_cases h32 : (s[k].toNat : Int) < 32
    ·clear hb
     go_wp2
     go_ret
     exact ⟨ret_bool Hr.out, rfl⟩
    ·have h127 : (((s[k].toNat : Int) == 127) : Bool) = true := by
      unfold badC at hb; simp at hb
      rw [beq_iff_eq]; omega
     clear hb
     go_wp2
     go_ret
     exact ⟨ret_bool Hr.out, rfl⟩
  ·have Hr := hid ((bad_end s k (by omega)).symm.trans Hn.out)
   go_wp2
   go_ret
   exact ⟨ret_bool Hr.out, rfl⟩
theorem cut_none (s : ByteArray) (hh : (headP s.data.toList).length = s.data.toList.length) (w : World) :
 Calls Tryz.prog 139 #[.string s, .string ⟨#[47]⟩] w fun e w' => e = .returned (.tuple #[.string s, .string ⟨#[]⟩, .bool false]) ∧ Dr w w' := by
 have e : Lib.indexByte s.data.toList 47 = -1 := by rw [index_head, if_pos hh]
 have He := hid e
 clear e hh
 go_enter Tryz.func139, Tryz.ntmps139
 go_wp2_with (go_at_call 152; refine (Tryz.stringslite_Index_one s 47 _).mono ?_; rintro e w' ⟨rfl, rfl⟩; rw [He.out])
 go_ret3
 exact ⟨rfl, Dr.refl _⟩
theorem cut_some (s a r : ByteArray) (k : Nat) (hs : s.size ≤ maxLen) (hk : (headP s.data.toList).length = k) (hh : k < s.size)
 (ha : s.extract 0 k = a) (hr : s.extract (k + 1) s.size = r) (w : World) :
 Calls Tryz.prog 139 #[.string s, .string ⟨#[47]⟩] w fun e w' => e = .returned (.tuple #[.string a, .string r, .bool true]) ∧ Dr w w' := by
 have e : Lib.indexByte s.data.toList 47 = (k : Int) := by rw [index_head, if_neg (by simp; omega), hk]
 have He := hid e
 have Ha := hid ha
 have Hr := hid hr
 clear e hk ha hr
 unfold maxLen at hs
 go_enter Tryz.func139, Tryz.ntmps139
 go_wp2_with (go_at_call 152; refine (Tryz.stringslite_Index_one s 47 _).mono ?_; rintro e w' ⟨rfl, rfl⟩; rw [He.out])
 go_quiet (fail)
 go_wp2
 go_ret3
 refine ⟨ret_val ?_, nq, rfl⟩
 show Value.tuple #[.string (s.extract 0 k), .string (s.extract (k + 1) s.size), .bool true] = _
 rw [Ha.out, Hr.out]
theorem cut_no (s : ByteArray) (hh : (headP s.data.toList).length = s.data.toList.length) (w : World) :
 Calls Tryz.prog 130 #[.string s, .string ⟨#[47]⟩] w fun e w' => e = .returned (.tuple #[.string s, .string ⟨#[]⟩, .bool false]) ∧ Dr w w' := by
 have Hh := hid hh
 clear hh
 go_enter Tryz.func130, Tryz.ntmps130
 go_wp2_with (go_at_call 139; refine (cut_none s Hh.out _).mono ?_; rintro e w' ⟨rfl, n, rfl⟩)
 go_ret3
 exact ⟨rfl, n, rfl⟩
theorem cut_yes (s a r : ByteArray) (k : Nat) (hs : s.size ≤ maxLen) (hk : (headP s.data.toList).length = k) (hh : k < s.size)
 (ha : s.extract 0 k = a) (hr : s.extract (k + 1) s.size = r) (w : World) :
 Calls Tryz.prog 130 #[.string s, .string ⟨#[47]⟩] w fun e w' => e = .returned (.tuple #[.string a, .string r, .bool true]) ∧ Dr w w' := by
 have Hk := hid hk
 have Ha := hid ha
 have Hr := hid hr
 clear hk ha hr
 go_enter Tryz.func130, Tryz.ntmps130
 go_wp2_with (go_at_call 139; refine (cut_some s a r k hs Hk.out hh Ha.out Hr.out _).mono ?_; rintro e w' ⟨rfl, n, rfl⟩)
 go_ret3
 exact ⟨rfl, n, rfl⟩
def moreP (l : List UInt8) : Bool := decide ((headP l).length < l.length)
def restP (l : List UInt8) : List UInt8 := l.drop ((headP l).length + 1)
theorem cut_any (s : ByteArray) (hs : s.size ≤ maxLen) (w : World) :
 Calls Tryz.prog 130 #[.string s, .string ⟨#[47]⟩] w fun e w' => e = .returned (.tuple #[.string ⟨(headP s.data.toList).toArray⟩, .string ⟨(restP s.data.toList).toArray⟩, .bool (moreP s.data.toList)]) ∧ Dr w w' := by
 have hlen : s.data.toList.length = s.size := by simp
 by_cases hh : (headP s.data.toList).length = s.data.toList.length
 ·refine (cut_no s hh w).mono ?_
  rintro e w' ⟨rfl, hd⟩
  refine ⟨?_, hd⟩
  have h1 : moreP s.data.toList = false := by unfold moreP; rw [decide_eq_false (by omega)]
  have h2 : restP s.data.toList = [] := by unfold restP; exact List.drop_of_length_le (by omega)
  rw [headP_all _ hh, h1, h2]
 ·have := headP_len s.data.toList
  refine (cut_yes s _ _ _ hs rfl (by omega) rfl rfl w).mono ?_
  rintro e w' ⟨rfl, hd⟩
  refine ⟨?_, hd⟩
  have h1 : moreP s.data.toList = true := by unfold moreP; rw [decide_eq_true (by omega)]
  rw [h1, extract_take, extract_drop, headP_take]; rfl
end Go.Proofs.YtlpececggkdhmaaGreat.Pa
namespace Go.Proofs.YtlpececggkdhmaaGreat.Pa
open Go
theorem tw_all (p : UInt8 → Bool) (l : List UInt8) (h : ∀ c ∈ l, p c = true) : l.takeWhile p = l := by
 induction l with
 | nil => rfl
 | cons c r ih => rw [List.takeWhile_cons, if_pos (h c (by simp)), ih (fun x hx => h x (by simp [hx]))]
theorem up_tail (l : List UInt8) : upS l ++ tailS l = l := by
 unfold upS tailS
 rw [← List.reverse_append, List.takeWhile_append_dropWhile, List.reverse_reverse]
theorem tail_plain (l : List UInt8) (h : ∀ c ∈ l, c ≠ 47) : tailS l = l ∧ upS l = [] := by
 have e : tailS l = l := by
  unfold tailS
  have : l.reverse.takeWhile (· != 47) = l.reverse := tw_all _ _ (fun c hc => by simpa using h c (by simpa using hc))
  rw [this, List.reverse_reverse]
 refine ⟨e, ?_⟩
 have := up_tail l
 rw [e] at this
 simpa using this
theorem tail_of (a b : List UInt8) (h : ∀ c ∈ b, c ≠ 47) : tailS (a ++ 47 :: b) = b ∧ upS (a ++ 47 :: b) = a ++ [47] := by
 have e : tailS (a ++ 47 :: b) = b := by
  unfold tailS
  have : (a ++ 47 :: b).reverse = b.reverse ++ 47 :: a.reverse := by simp
  rw [this, List.takeWhile_append_of_pos (by intro c hc; simpa using h c (by simpa using hc)), List.takeWhile_cons]
  simp
 refine ⟨e, ?_⟩
 have := up_tail (a ++ 47 :: b)
 rw [e] at this
 have h2 : upS (a ++ 47 :: b) ++ b = (a ++ [47]) ++ b := by rw [this]; simp
 exact List.append_cancel_right h2
theorem last_split (l : List UInt8) : (∀ c ∈ l, c ≠ 47) ∨ ∃ a b, l = a ++ 47 :: b ∧ ∀ c ∈ b, c ≠ 47 := by
 induction l with
 | nil => exact Or.inl (fun c hc => by cases hc)
 | cons x r ih =>
  rcases ih with h | ⟨a, b, rfl, h⟩
  ·by_cases hx : x = 47
   ·subst hx; exact Or.inr ⟨[], r, rfl, h⟩
   ·refine Or.inl (fun c hc => ?_)
    rcases List.mem_cons.1 hc with rfl | hc
    ·exact hx
    ·exact h c hc
  ·exact Or.inr ⟨x :: a, b, rfl, h⟩
theorem lastP_tail (l : List UInt8) : lastP l = tailS l := by
 unfold lastP
 rcases last_split l with h | ⟨a, b, rfl, h⟩
 ·rw [spl_one l h, (tail_plain l h).1]; rfl
 ·rw [spl_append, spl_one b h, (tail_of a b h).1]; simp
theorem up_end (l : List UInt8) : upS l = [] ∨ (upS l).getLast? = some 47 := by
 rcases last_split l with h | ⟨a, b, rfl, h⟩
 ·exact Or.inl (tail_plain l h).2
 ·right; rw [(tail_of a b h).2]; simp
theorem bang_at (s : ByteArray) (j : Nat) (h : j < s.data.toList.length) : s.data[j]! = s.data.toList[j] := by
 have h' : j < s.data.size := by simpa using h
 rw [getElem!_pos s.data j h']; simp
theorem lastIdx_take (s : ByteArray) (k : Nat) (hk : k ≤ s.data.toList.length) : Lib.lastIdx s 47 k = ((upS (s.data.toList.take k)).length : Int) - 1 := by
 induction k with
 | zero => rfl
 | succ k ih =>
  have hj : k < s.data.toList.length := by omega
  have e : s.data.toList.take (k + 1) = s.data.toList.take k ++ [s.data.toList[k]] := List.take_succ_eq_append_getElem hj
  unfold Lib.lastIdx
  rw [bang_at s k hj, e]
  by_cases h : s.data.toList[k] = 47
  ·rw [if_pos (by rw [h]; rfl), h, (tail_of _ [] (fun c hc => by cases hc)).2]
   rw [List.length_append, List.length_take, Nat.min_eq_left (by omega)]; show (k : Int) = ((k + 1 : Nat) : Int) - 1; omega
  ·rw [if_neg (fun x => h (UInt8.toNat_inj.1 (by show (s.data.toList[k]).toNat = 47; omega))), ih (by omega)]
   have e2 : upS (s.data.toList.take k ++ [s.data.toList[k]]) = upS (s.data.toList.take k) := by
    unfold upS
    rw [List.reverse_append, List.reverse_singleton, List.singleton_append, List.dropWhile_cons, if_pos (by simpa using h)]
   rw [e2]
theorem lastIdx_up (s : ByteArray) : Lib.lastIndexByte s 47 = ((upS s.data.toList).length : Int) - 1 := by
 have h : s.size = s.data.toList.length := by simp
 unfold Lib.lastIndexByte
 rw [lastIdx_take s s.size (by omega), List.take_of_length_le (by omega)]
theorem drop_up (l : List UInt8) : l.drop (upS l).length = tailS l := by
 have := up_tail l
 rw [← this]
 have h2 : (upS (upS l ++ tailS l)).length = (upS l).length := by rw [this]
 rw [h2, List.drop_left]
 rw [this]
theorem up_len (l : List UInt8) : (upS l).length ≤ l.length := by
 have := congrArg List.length (up_tail l)
 rw [List.length_append] at this; omega
end Go.Proofs.YtlpececggkdhmaaGreat.Pa
namespace Go.Proofs.YtlpececggkdhmaaGreat.Pa
open Go.RowKit
theorem tail_str (s : ByteArray) : s.extract (upS s.data.toList).length s.size = ⟨(tailS s.data.toList).toArray⟩ := by
 rw [extract_drop, drop_up]
theorem ends_any (s : ByteArray) (hs : s.size < 4611686018427387904) (w : World) :
 Calls Tryz.prog 103 #[.string s] w fun e w' => e = .returned (.bool (dirP s.data.toList)) ∧ w = w' := by
 have hm := hs
 obtain ⟨q, hq⟩ : ∃ q : Nat, (upS s.data.toList).length = q := ⟨_, rfl⟩
 have hqs : q ≤ s.size := by have := up_len s.data.toList; rw [size_len] at this; omega
 have Hi := hid (show Lib.lastIndexByte s 47 = (q : Int) - 1 by rw [lastIdx_up, hq])
 have ht : (s.extract q s.size).toList = tailS s.data.toList := by rw [← hq, tail_str, toL]
 cases h0 : (s.extract q s.size).toList.isEmpty
 ·cases h1 : ((s.extract q s.size).toList == [46])
  ·cases h2 : ((s.extract q s.size).toList == [46, 46])
   ·have Hr := hid (show dirP s.data.toList = false by
     unfold dirP; rw [lastP_tail, ← ht, h1, h2]
     rw [List.isEmpty_eq_false_iff] at h0
     simpa using h0)
    clear ht hq
    go_enter Tryz.func103, Tryz.ntmps103
    go_wp2_with (go_at_call 131; refine (Tryz.strings_LastIndexByte s 47 hm _).mono ?_; rintro e w' ⟨rfl, rfl⟩; rw [Hi.out])
    go_ret
    exact ⟨ret_bool Hr.out.symm, rfl⟩
   ·have Hr := hid (show dirP s.data.toList = true by
     unfold dirP; rw [lastP_tail, ← ht, h2, Bool.or_true, Bool.or_true])
    clear ht hq
    go_enter Tryz.func103, Tryz.ntmps103
    go_wp2_with (go_at_call 131; refine (Tryz.strings_LastIndexByte s 47 hm _).mono ?_; rintro e w' ⟨rfl, rfl⟩; rw [Hi.out])
    go_ret
    exact ⟨ret_bool Hr.out.symm, rfl⟩
  ·have Hr := hid (show dirP s.data.toList = true by
    unfold dirP; rw [lastP_tail, ← ht, h1, Bool.true_or, Bool.or_true])
   clear ht hq
   go_enter Tryz.func103, Tryz.ntmps103
   go_wp2_with (go_at_call 131; refine (Tryz.strings_LastIndexByte s 47 hm _).mono ?_; rintro e w' ⟨rfl, rfl⟩; rw [Hi.out])
   go_ret
   exact ⟨ret_bool Hr.out.symm, rfl⟩
 ·have Hr := hid (show dirP s.data.toList = true by
   unfold dirP; rw [lastP_tail, ← ht, List.isEmpty_iff.1 h0]; rfl)
  clear ht hq
  go_enter Tryz.func103, Tryz.ntmps103
  go_wp2_with (go_at_call 131; refine (Tryz.strings_LastIndexByte s 47 hm _).mono ?_; rintro e w' ⟨rfl, rfl⟩; rw [Hi.out])
  go_ret
  exact ⟨ret_bool Hr.out.symm, rfl⟩
end Go.Proofs.YtlpececggkdhmaaGreat.Pa
