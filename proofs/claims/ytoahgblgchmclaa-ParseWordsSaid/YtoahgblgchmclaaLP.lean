/- The laws' shown; rows of tokens as they are read. -/
import Derived.Test.YtoahgblgchmclaaLK
namespace Go.Proofs.Ytoahgblgchmclaa
open Go.RowKit
set_option linter.unusedVariables false
set_option linter.unusedSimpArgs false
theorem tkC_len (ts : List Tk) : (tkC ts).length = ts.length * 3 := by
  induction ts with
  | nil => rfl
  | cons t r ih => rw [tkC, List.flatMap_cons, List.length_append, ← tkC, ih]; simp [tkC1]; omega
theorem tkC_cons (t : Tk) (r : List Tk) : tkC (t :: r) = tkC1 t ++ tkC r := by simp [tkC]
theorem tkC_get (ts : List Tk) (k : Nat) (h : k < ts.length) : (tkC ts)[k * 3]? = some (.int .i64 ts[k].kind) ∧ (tkC ts)[k * 3 + 1]? = some (.string (st ts[k].text)) ∧ (tkC ts)[k * 3 + 2]? = some (.int .i64 ts[k].at_) := by
  induction ts generalizing k with
  | nil => simp at h
  | cons t r ih =>
    rw [tkC_cons]
    cases k with
    | zero => exact ⟨rfl, rfl, rfl⟩
    | succ k =>
      have := ih k (by simpa using h)
      have h3 : (tkC1 t).length = 3 := rfl
      rw [List.getElem?_append_right (by omega), List.getElem?_append_right (by omega), List.getElem?_append_right (by omega), h3, show (k + 1) * 3 - 3 = k * 3 by omega, show (k + 1) * 3 + 1 - 3 = k * 3 + 1 by omega, show (k + 1) * 3 + 2 - 3 = k * 3 + 2 by omega]
      exact this
theorem row_open {W : World} {B : Nat} {v : Value} {ts : List Tk} (h : Row W B v ts) (hn : 0 < ts.length) : ∃ g cap, v = .slice (some ⟨g, 0, none⟩) ts.length cap ∧ B ≤ g ∧ g < W.heap.size ∧ ts.length ≤ cap := by
  rcases h.2 with ⟨rfl, h0⟩ | ⟨g, cap, cur, rfl, hb, hg, hc, _⟩
  · omega
  · exact ⟨g, cap, rfl, hb, heap_lt hg, hc⟩
theorem row_cell {W : World} {B g cap : Nat} {ts : List Tk} (h : Row W B (.slice (some ⟨g, 0, none⟩) ts.length cap) ts) (k : Nat) (hk : k < ts.length) :
    W.cell? ⟨g, k * 3, none⟩ = some (.int .i64 ts[k].kind) ∧ W.cell? ⟨g, k * 3 + 1, none⟩ = some (.string (st ts[k].text)) ∧ W.cell? ⟨g, k * 3 + 2, none⟩ = some (.int .i64 ts[k].at_) := by
  have h' : W.ownsRow B 40 3 (.slice (some ⟨g, 0, none⟩) ts.length cap) ts.length (tkC ts) := h
  obtain ⟨a, b, c⟩ := tkC_get ts k hk
  refine ⟨?_, ?_, ?_⟩
  · rw [← a]; exact h'.cellAt (k * 3) (show k * 3 < ts.length * 3 by omega)
  · rw [← b]; exact h'.cellAt (k * 3 + 1) (show k * 3 + 1 < ts.length * 3 by omega)
  · rw [← c]; exact h'.cellAt (k * 3 + 2) (show k * 3 + 2 < ts.length * 3 by omega)
theorem Fr.drewN' {W w : World} (F : Fr (fun _ => False) W w) (n : Nat) : Fr (fun _ => False) W (w.drewN n) := F.drewN n
def sh1 : ByteArray := ⟨#[101, 99, 104, 111, 32, 34, 97, 32, 98, 34, 32, 36, 40, 108, 115, 32, 124, 32, 99, 97, 116, 41, 62, 102]⟩
def sh2 : ByteArray := ⟨#[50, 62, 120]⟩
def sh3 : ByteArray := ⟨#[39, 97]⟩
def sh4 : ByteArray := ⟨#[36, 123, 120, 58, 45, 34, 125, 34, 125, 121]⟩
def shT1 : List Tk := [⟨1, [101, 99, 104, 111], 0⟩, ⟨1, [34, 97, 32, 98, 34], 5⟩, ⟨1, [36, 40, 108, 115, 32, 124, 32, 99, 97, 116, 41], 11⟩, ⟨2, [62], 22⟩, ⟨1, [102], 23⟩, ⟨4, [], 24⟩]
def shT2 : List Tk := [⟨3, [50], 0⟩, ⟨2, [62], 1⟩, ⟨1, [120], 2⟩, ⟨4, [], 3⟩]
theorem sh1_all : allA sh1.data.toList = .ok shT1 := by kernel_rfl
theorem sh2_all : allA sh2.data.toList = .ok shT2 := by kernel_rfl
theorem sh3_all : allA sh3.data.toList = .err 2 23 := by kernel_rfl
theorem sh4_part : partA sh4.data.toList false = 9 := by kernel_rfl
/-- what All answers, where it answers tokens. -/
def okPost (W : World) (ts : List Tk) (e : Ending) (w' : World) : Prop :=
  ∃ g cap, e = .returned (.tuple #[.slice (some ⟨g, 0, none⟩) ts.length cap, .int .i64 0, .int .i64 0]) ∧ Row w' W.heap.size (.slice (some ⟨g, 0, none⟩) ts.length cap) ts ∧ W.heap.size ≤ g ∧ g < w'.heap.size ∧ ts.length ≤ cap ∧ Fr (fun _ => False) W w'
theorem pAll_ok (s : ByteArray) (ts : List Tk) (hs : s.size ≤ maxLen) (hn : 0 < ts.length) (hA : allA s.data.toList = .ok ts) (W : World) : Calls Try.prog 14 #[.string s] W (okPost W ts) := by
  refine (pAll_any s hs W).mono ?_
  rw [hA]
  rintro e w' ⟨v, rfl, hr, hF⟩
  obtain ⟨g, cap, rfl, h1, h2, h3⟩ := row_open hr hn
  exact ⟨g, cap, rfl, hr, h1, h2, h3, hF⟩
end Go.Proofs.Ytoahgblgchmclaa
