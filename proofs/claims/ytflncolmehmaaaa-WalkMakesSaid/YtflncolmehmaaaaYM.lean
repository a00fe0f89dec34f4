/- WalkMakes: directories within one another. Plain mathematics. -/
import Derived.Test.YtflncolmehmaaaaWX
namespace Go.Proofs.Ytflncolmehmaaaa
open Ino Pa Mo

/-- a path of these names. -/
def pth : List Bs → Bs
  | [] => []
  | n :: l => 47 :: (n ++ pth l)
theorem pth_snoc : ∀ (l : List Bs) (n : Bs), pth (l ++ [n]) = pth l ++ 47 :: n
  | [], n => by simp [pth]
  | m :: l, n => by
    show 47 :: (m ++ pth (l ++ [n])) = (47 :: (m ++ pth l)) ++ 47 :: n
    rw [pth_snoc l n]
    simp
theorem name_chars {n : Bs} (h : nameOk n = true) : 1 ≤ n.length ∧ n.length ≤ 14 ∧ n ≠ [46] ∧ n ≠ [46, 46] ∧ ∀ c ∈ n, ¬ c < 32 ∧ c ≠ 127 ∧ c ≠ 47 := by
  unfold nameOk at h
  simp only [Bool.and_eq_true, decide_eq_true_eq, bne_iff_ne, ne_eq, List.all_eq_true, Bool.not_eq_true', Bool.or_eq_false_iff, decide_eq_false_iff_not, beq_eq_false_iff_ne] at h
  exact ⟨h.1.1, h.1.2, h.2.1, h.2.2.1, fun c hc => ⟨(h.2.2.2 c hc).1.1, (h.2.2.2 c hc).1.2, (h.2.2.2 c hc).2⟩⟩
theorem spl_pth : ∀ (l : List Bs), (∀ n ∈ l, nameOk n = true) → spl (pth l) = [] :: l
  | [], _ => rfl
  | n :: l, h => by
    have hn := name_chars (h n (by simp))
    show spl (47 :: (n ++ pth l)) = _
    rw [spl_sep, spl_plain n (pth l) (fun c hc => (hn.2.2.2.2 c hc).2.2), spl_pth l (fun m hm => h m (by simp [hm]))]
    simp [glue]
theorem keep_name {n : Bs} (h : nameOk n = true) : keepN n = true := by
  have hn := name_chars h
  unfold keepN
  have h1 : n ≠ [] := fun e => by rw [e] at hn; exact absurd hn.1 (by decide)
  simp [h1, hn.2.2.1]
theorem filter_names {l : List Bs} (h : ∀ n ∈ l, nameOk n = true) : l.filter keepN = l := List.filter_eq_self.2 fun n hn => keep_name (h n hn)
theorem nam_pth {l : List Bs} (h : ∀ n ∈ l, nameOk n = true) : nam (pth l) = l := by
  unfold nam
  rw [spl_pth l h, List.filter_cons, if_neg (by decide), filter_names h]
theorem len_pth : ∀ {l : List Bs}, (∀ n ∈ l, nameOk n = true) → (pth l).length ≤ 15 * l.length
  | [], _ => by simp [pth]
  | n :: l, h => by
    have hn := name_chars (h n (by simp))
    have := len_pth (l := l) (fun m hm => h m (by simp [hm]))
    show (47 :: (n ++ pth l)).length ≤ _
    simp only [List.length_cons, List.length_append]
    omega
theorem bad_pth : ∀ {l : List Bs}, (∀ n ∈ l, nameOk n = true) → anyBad (pth l) = false
  | [], _ => rfl
  | n :: l, h => by
    have hn := name_chars (h n (by simp))
    have ih := bad_pth (l := l) (fun m hm => h m (by simp [hm]))
    unfold anyBad at ih ⊢
    show (47 :: (n ++ pth l)).any badC = false
    rw [List.any_cons, List.any_append, ih, Bool.or_false]
    have h1 : badC 47 = false := by decide
    have h2 : n.any badC = false := by
      rw [List.any_eq_false]
      intro c hc
      obtain ⟨a1, a2, a3⟩ := hn.2.2.2.2 c hc
      unfold badC
      have b1 : ¬ c.toNat < 32 := fun k => a1 (UInt8.lt_iff_toNat_lt.2 k)
      have b2 : ¬ c.toNat = 127 := fun k => a2 (UInt8.toNat_inj.1 k)
      simp [b1, b2]
    rw [h1, h2]; rfl
/-- what a path of names with something behind it is. -/
theorem long_pth {l : List Bs} (h : ∀ n ∈ l, nameOk n = true) (x : Bs) (hx : x.length ≤ 14) (hs : ∀ c ∈ x, c ≠ 47) : anyLong (pth l ++ 47 :: x) = false := by
  unfold anyLong
  rw [spl_append, spl_pth l h, spl_one x hs, List.any_append, List.any_cons]
  have h1 : longN [] = false := by decide
  have h2 : l.any longN = false := by
    rw [List.any_eq_false]
    intro n hn
    have := (name_chars (h n hn)).2.1
    unfold longN
    simp; exact this
  have h3 : [x].any longN = false := by unfold longN; simp; exact hx
  rw [h1, h2, h3]; rfl
theorem splE_pth {l : List Bs} (h : ∀ n ∈ l, nameOk n = true) (hl : l.length ≤ 4) (x : Bs) (hx : x.length ≤ 14) (hs : ∀ c ∈ x, c ≠ 47) (hb : anyBad x = false) : splE (pth l ++ 47 :: x) = 0 := by
  have h1 := len_pth h
  refine splE_ok (by simp) (by simp; omega) (long_pth h x hx hs) ?_
  have h2 := bad_pth h
  unfold anyBad at h2 hb ⊢
  rw [List.any_append, List.any_cons, h2, hb]
  rfl
theorem abs_pth (l : List Bs) (x : Bs) : absP (pth l ++ 47 :: x) = true := by
  cases l with
  | nil => rfl
  | cons n l => rfl
theorem last_pth {l : List Bs} (h : ∀ n ∈ l, nameOk n = true) (x : Bs) (hs : ∀ c ∈ x, c ≠ 47) : lastP (pth l ++ 47 :: x) = x := by
  unfold lastP
  rw [spl_append, spl_pth l h, spl_one x hs]
  exact List.getLastD_concat
theorem nam_pth2 {l : List Bs} (h : ∀ n ∈ l, nameOk n = true) (x : Bs) (hs : ∀ c ∈ x, c ≠ 47) : nam (pth l ++ 47 :: x) = l ++ [x].filter keepN := by
  rw [nam_append, nam_pth h]
  unfold nam
  rw [spl_one x hs]
end Go.Proofs.Ytflncolmehmaaaa
