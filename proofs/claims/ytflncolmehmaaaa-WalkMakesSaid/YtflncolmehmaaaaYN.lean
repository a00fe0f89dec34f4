/- WalkMakes: the trees that its steps leave. Plain mathematics. -/
import Derived.Test.YtflncolmehmaaaaYM
namespace Go.Proofs.Ytflncolmehmaaaa
open Ino Pa Mo

/-- directories within one another, of this owner and mode, in a root in which all may write. -/
structure Chn (U M : Int) (l : List Bs) (t : T) : Prop where
  s : Sound t
  is_ : ∀ j, 1 ≤ j → j ≤ l.length + 1 → (t j).is = true
  not_ : ∀ j, l.length + 1 < j → (t j).is = false
  kind : ∀ j, 1 ≤ j → j ≤ l.length + 1 → (t j).kind = 1
  ent : ∀ j n, l[j]? = some n → (t (j + 1)).ents = [(n, j + 2)]
  last : (t (l.length + 1)).ents = []
  root : (t 1).mode = 511 ∧ (t 1).owner = 0 ∧ (t 1).group = 0
  own : ∀ j, 2 ≤ j → j ≤ l.length + 1 → (t j).mode = M ∧ (t j).owner = U ∧ (t j).group = 9
variable {U M : Int} {l : List Bs} {t : T}
theorem chn_new : Chn U M [] (Ino.newP 511 0 0) := by
  refine ⟨sound_new _ _ _, fun j h1 h2 => ?_, fun j h => ?_, fun j h1 h2 => ?_, fun j n h => by simp at h, rfl, ⟨rfl, rfl, rfl⟩, fun j h1 h2 => ?_⟩
  · obtain rfl : j = 1 := by simp at h2; omega
    rfl
  · have : j ≠ 1 := by simp at h; omega
    show (Ino.upd (fun _ => noN) 1 (rootN 511 0 0) j).is = false
    rw [upd_other _ _ this]; rfl
  · obtain rfl : j = 1 := by simp at h2; omega
    rfl
  · simp at h2; omega
theorem Chn.free (h : Chn U M l t) (hl : l.length ≤ 4) : freeP t = some (l.length + 2) := by
  have key : ∀ m i n, i + m = l.length + 2 → 1 ≤ i → m < n → freeUp n i t = some (l.length + 2) := by
    intro m
    induction m with
    | zero =>
      intro i n hi h1 hn
      obtain ⟨n, rfl⟩ : ∃ k, n = k + 1 := ⟨n - 1, by omega⟩
      unfold freeUp
      rw [h.not_ i (by omega), if_neg Bool.false_ne_true]
      congr 1
    | succ m ih =>
      intro i n hi h1 hn
      obtain ⟨n, rfl⟩ : ∃ k, n = k + 1 := ⟨n - 1, by omega⟩
      unfold freeUp
      rw [h.is_ i h1 (by omega), if_pos rfl]
      exact ih (i + 1) n (by omega) (by omega) (by omega)
  exact key (l.length + 1) 1 200 (by omega) (Nat.le_refl _) (by omega)
theorem findE_one (n : Bs) (x : Nat) : findE [(n, x)] n = some x := by
  unfold findE
  rw [if_pos rfl]
theorem Chn.look (h : Chn U M l t) {j : Nat} {n : Bs} (hj : l[j]? = some n) (hn : nameOk n = true) : lookP t ((j + 1 : Nat) : Int) n = (j + 2, true) := by
  have hjl := (List.getElem?_eq_some_iff.1 hj).1
  have hn2 := name_chars hn
  have hD : isD t ((j + 1 : Nat) : Int) = true := by
    unfold isD
    rw [isI_cast h.s.sd, h.is_ (j + 1) (by omega) (by omega), Int.toNat_natCast, h.kind (j + 1) (by omega) (by omega)]
    rfl
  unfold lookP
  rw [if_pos hD, if_neg hn2.2.2.1, if_neg hn2.2.2.2.1, Int.toNat_natCast, h.ent j n hj, findE_one]
/-- one goes down along the names. -/
theorem Chn.down (h : Chn U M l t) (hn : ∀ n ∈ l, nameOk n = true) (u g : Int) : ∀ (m : Nat) (j : Nat), j + m ≤ l.length → (∀ i, j + 1 ≤ i → i ≤ j + m → mayT t i u g 1 = true) → downT t u g (j + 1) ((l.drop j).take m) = (j + m + 1, 0)
  | 0, j, _, _ => rfl
  | m + 1, j, hj, hm => by
    have hjl : j < l.length := by omega
    rw [List.drop_eq_getElem_cons hjl, List.take_succ_cons]
    have hg : l[j]? = some l[j] := List.getElem?_eq_getElem hjl
    have hlk := h.look hg (hn _ (List.getElem_mem hjl))
    have hE : lookE t (j + 1) u g = 0 := by
      unfold lookE
      rw [if_pos (h.kind (j + 1) (by omega) (by omega)), if_pos (hm (j + 1) (by omega) (by omega))]
    unfold downT
    rw [if_pos hE, hlk]
    show (if (true : Bool) = true then downT t u g (j + 2) ((l.drop (j + 1)).take m) else (0, 3)) = _
    rw [if_pos rfl, h.down hn u g m (j + 1) (by omega) (fun i h1 h2 => hm i (by omega) (by omega))]
    congr 1
    omega
/-- .. until one may not. -/
theorem Chn.stop (h : Chn U M l t) (hn : ∀ n ∈ l, nameOk n = true) (u g : Int) (h1 : mayT t 1 u g 1 = true) (h2 : mayT t 2 u g 1 = false) (hl : 2 ≤ l.length) : downT t u g 1 l = (0, 4) := by
  match l, hl, h with
  | a :: b :: r, _, h =>
    have l1 := h.look (j := 0) (n := a) rfl (hn a (by simp))
    have e1 : lookE t 1 u g = 0 := by
      unfold lookE
      rw [if_pos (h.kind 1 (by omega) (by omega)), if_pos h1]
    have e2 : lookE t 2 u g = 4 := by
      unfold lookE
      rw [if_pos (h.kind 2 (by omega) (by simp)), if_neg (by rw [h2]; exact Bool.false_ne_true)]
    unfold downT
    rw [if_pos e1]
    have l1' : lookP t ((1 : Nat) : Int) a = (2, true) := l1
    rw [l1', if_pos rfl]
    show downT t u g 2 (b :: r) = _
    unfold downT
    rw [e2, if_neg (by decide)]
theorem downP_abs (h : Chn U M l t) (u g : Int) (x : List Bs) : downP t 1 u g true x = downT t u g 1 x := by
  unfold downP startI
  rw [if_pos rfl, if_pos (by rw [show (1 : Int) = ((1 : Nat) : Int) from rfl, isI_cast h.s.sd]; exact h.is_ 1 (by omega) (by omega))]
  rfl
/-- what the owner may. -/
structure Rts (U M : Int) : Prop where
  root1 : mayB 511 0 0 true U 9 1 = true
  root2 : mayB 511 0 0 true U 9 2 = true
  own1 : mayB M U 9 true U 9 1 = true
  own2 : mayB M U 9 true U 9 2 = true
  rm : rMode M = true
  rk : rMake 1 M U 9 0 = true
end Go.Proofs.Ytflncolmehmaaaa
