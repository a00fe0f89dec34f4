/- Rows of numbers: the calls. -/
import Derived.Test.YtjjkeemaebmcfaaDE
namespace Go.Proofs.Ytjjkeemaebmcfaa
open Go.RowKit
set_option linter.unusedVariables false
set_option linter.unusedSimpArgs false
variable {W W' : World}

/-- 'append([]int{}, row...)'. -/
theorem wpList_own {w w1 : World} {ops : Array Oper} {rest : List Oper} {o : Oper} {a : Act} {Q : Exit → Act → World → Prop} (hgd : o.guard = none) (s x : Operand)
    (ho : o.op = .call { callee := .builtin .append, args := #[s, x], argTypes := #[45, 45] }) (l : List Int) (g off n c : Nat) (hn : l.length = n) (h0 : 0 < n) (hb : n ≤ 1000)
    (hw : w1 = w.alloc (.cells #[] 3)) (hs : a.eval s = .slice (some ⟨w.heap.size, 0, none⟩) 0 0) (hx : a.eval x = .slice (some ⟨g, off, none⟩) n c) (h : Rd w g off l)
    (k : ∀ G cap w', OR w' w.heap.size G cap n l → Fr (fun _ => False) w w' → wpList Try.prog ops Q rest (a.put o.dst (.slice (some ⟨G, 0, none⟩) n cap)) w') :
    wpList Try.prog ops Q (o :: rest) a w1 := by
  subst hw
  obtain ⟨i, hi, hz0, hz1, hz2⟩ := info_int
  refine wpList_append_lies _ hgd s x 45 ho w.heap.size 3 i (.int .i64 0) 1 8 intsU hi hz0 hz1 hz2 rfl (by decide) _ 0 [] hs (World.ownsRow_made w #[] 0 (Nat.le_refl _) (by decide) rfl) ⟨g, off, none⟩ n c (l.map cI) hx (by simp [hn]) (rd_map (h.fr (S := fun _ => False) ((Fr.refl _ _).alloc _) id)) (one_map l) h0 (by unfold maxLen; omega) (by omega) (by simp) _ rfl ?_
  intro G cap w' k1 k2 k3 k4
  have hf := Fr.grown (S := fun _ => False) ((Fr.refl _ w).alloc (.cells #[] 3)) k2 (Nat.le_refl _)
  rw [List.nil_append] at k1
  simp only [Nat.zero_add] at k1 ⊢
  exact k G cap w' ⟨hn, k1⟩ hf
theorem with_any (l : List Int) (g off n c k : Nat) (v : Int) (hn : l.length = n) (hk : k < n) (hb : n ≤ 1000) (w : World) (h : Rd w g off l) :
    Calls Try.prog 36 #[.slice (some ⟨g, off, none⟩) n c, .int .i64 k, .int .i64 v] w fun r w' => ∃ G cap, r = .returned (.slice (some ⟨G, 0, none⟩) n cap) ∧ OR w' w.heap.size G cap n (l.set k v) ∧ Fr (fun _ => False) w w' := by
  have H := Lib.hid h
  clear h
  go_enter Try.func36, Try.ntmps36
  go_wp2_with (refine wpList_own rfl _ _ rfl l g off n c hn (by omega) hb rfl rfl rfl H.out ?_; intro G cap w' hO hF; have hfz := hO.frozen k; have hc := hO.rd k (l[k]'(by omega)) (List.getElem?_eq_getElem _); rw [Nat.zero_add] at hc; have HO := Lib.hid hO; clear hO)
  go_ret
  exact ⟨_, _, rfl, HO.out.set k v, hF.setCell (.inr HO.out.form.1) _⟩
/-- is there a number at fd? -/
def atB (l : List Int) (fd : Int) : Bool := decide (0 ≤ fd) && decide (fd < l.length) && !(l[fd.toNat]?.getD 0 == -1)
def atA (l : List Int) (fd : Int) : Int := if atB l fd then l[fd.toNat]?.getD 0 else 0
theorem index_any (g off n c : Nat) (fd : Int) (w : World) :
    Calls Try.prog 37 #[.slice (some ⟨g, off, none⟩) n c, .int .i64 fd] w fun r w' => r = .returned (.bool (decide (0 ≤ fd) && decide (fd < n))) ∧ w = w' := by
  by_cases h0 : 0 ≤ fd
  · by_cases h1 : fd < n
    all_goals
      go_enter Try.func37, Try.ntmps37
      go_wp2
      go_ret
      exact ⟨ret_bool (by simp [h0, h1]), rfl⟩
  · go_enter Try.func37, Try.ntmps37
    go_wp2
    go_ret
    exact ⟨ret_bool (by simp; omega), rfl⟩
theorem atB_lit {l : List Int} {k : Nat} (hk : k < l.length) : atB l (k : Int) = !(l[k] == -1) := by
  simp [atB, hk]
theorem atA_lit {l : List Int} {k : Nat} (hk : k < l.length) (h : atB l (k : Int) = true) : atA l (k : Int) = l[k] := by
  simp [atA, h, hk]
theorem pat_any (l : List Int) (g off n c : Nat) (fd : Int) (hn : l.length = n) (hb : n ≤ 1000) (w : World) (h : Rd w g off l) :
    Calls Try.prog 30 #[.slice (some ⟨g, off, none⟩) n c, .int .i64 fd] w fun r w' => r = .returned (.tuple #[.int .i64 (atA l fd), .bool (atB l fd)]) ∧ Fr (fun _ => False) w w' := by
  obtain ⟨A, hA⟩ : ∃ A, atA l fd = A := ⟨_, rfl⟩
  obtain ⟨B, hB⟩ : ∃ B, atB l fd = B := ⟨_, rfl⟩
  rw [hA, hB]
  by_cases h0 : 0 ≤ fd
  · by_cases h1 : fd < n
    · obtain ⟨k, rfl⟩ : ∃ k : Nat, fd = k := ⟨fd.toNat, by omega⟩
      have hk : k < l.length := by omega
      have hc := h k (l[k]'hk) (List.getElem?_eq_getElem _)
      have hB0 := hB
      rw [atB_lit hk] at hB
      have hA2 := fun e => atA_lit hk e
      generalize l[k]'hk = v at *
      by_cases hv : v = -1
      · subst hv
        have hB2 : B = false := by rw [← hB]; rfl
        have hA3 : A = 0 := by rw [← hA]; unfold atA; rw [hB0, hB2]; rfl
        subst hB2 hA3
        clear hA hB hA2 h hB0
        go_enter Try.func30, Try.ntmps30
        go_wp2_with (refine (index_any _ _ _ _ _ _).mono ?_; rintro r w' ⟨rfl, rfl⟩)
        go_ret2
        exact ⟨rfl, Fr.refl _ _⟩
      · have hv2 : (v == -1) = false := by simpa using hv
        have hB2 : B = true := by rw [← hB, hv2]; rfl
        have hA3 : A = v := by rw [← hA]; exact hA2 (hB0.trans hB2)
        subst hB2 hA3
        clear hA hB hA2 h hB0
        go_enter Try.func30, Try.ntmps30
        go_wp2_with (refine (index_any _ _ _ _ _ _).mono ?_; rintro r w' ⟨rfl, rfl⟩)
        go_ret2
        exact ⟨rfl, Fr.refl _ _⟩
    · have hB2 : B = false := by rw [← hB]; simp [atB, hn, h1]
      have hA3 : A = 0 := by rw [← hA]; unfold atA; rw [hB, hB2]; rfl
      subst hB2 hA3
      clear hA hB h
      go_enter Try.func30, Try.ntmps30
      go_wp2_with (refine (index_any _ _ _ _ _ _).mono ?_; rintro r w' ⟨rfl, rfl⟩)
      go_ret2
      exact ⟨rfl, Fr.refl _ _⟩
  · have hB2 : B = false := by rw [← hB]; simp [atB, h0]
    have hA3 : A = 0 := by rw [← hA]; unfold atA; rw [hB, hB2]; rfl
    subst hB2 hA3
    clear hA hB h
    go_enter Try.func30, Try.ntmps30
    go_wp2_with (refine (index_any _ _ _ _ _ _).mono ?_; rintro r w' ⟨rfl, rfl⟩)
    go_ret2
    exact ⟨rfl, Fr.refl _ _⟩
theorem rat_any (l : List Int) (g off n c : Nat) (fd : Int) (hn : l.length = n) (hb : n ≤ 1000) (w : World) (h : Rd w g off l) :
    Calls Try.prog 31 #[.slice (some ⟨g, off, none⟩) n c, .int .i64 fd] w fun r w' => r = .returned (.tuple #[.int .i64 (atA l fd), .bool (atB l fd)]) ∧ Fr (fun _ => False) w w' := by
  obtain ⟨A, hA⟩ : ∃ A, atA l fd = A := ⟨_, rfl⟩
  obtain ⟨B, hB⟩ : ∃ B, atB l fd = B := ⟨_, rfl⟩
  rw [hA, hB]
  by_cases h0 : 0 ≤ fd
  · by_cases h1 : fd < n
    · obtain ⟨k, rfl⟩ : ∃ k : Nat, fd = k := ⟨fd.toNat, by omega⟩
      have hk : k < l.length := by omega
      have hc := h k (l[k]'hk) (List.getElem?_eq_getElem _)
      have hB0 := hB
      rw [atB_lit hk] at hB
      have hA2 := fun e => atA_lit hk e
      generalize l[k]'hk = v at *
      by_cases hv : v = -1
      · subst hv
        have hB2 : B = false := by rw [← hB]; rfl
        have hA3 : A = 0 := by rw [← hA]; unfold atA; rw [hB0, hB2]; rfl
        subst hB2 hA3
        clear hA hB hA2 h hB0
        go_enter Try.func31, Try.ntmps31
        go_wp2
        go_ret2
        exact ⟨rfl, Fr.refl _ _⟩
      · have hv2 : (v == -1) = false := by simpa using hv
        have hB2 : B = true := by rw [← hB, hv2]; rfl
        have hA3 : A = v := by rw [← hA]; exact hA2 (hB0.trans hB2)
        subst hB2 hA3
        clear hA hB hA2 h hB0
        go_enter Try.func31, Try.ntmps31
        go_wp2
        go_ret2
        exact ⟨rfl, Fr.refl _ _⟩
    · have hB2 : B = false := by rw [← hB]; simp [atB, hn, h1]
      have hA3 : A = 0 := by rw [← hA]; unfold atA; rw [hB, hB2]; rfl
      subst hB2 hA3
      clear hA hB h
      go_enter Try.func31, Try.ntmps31
      go_wp2
      go_ret2
      exact ⟨rfl, Fr.refl _ _⟩
  · have hB2 : B = false := by rw [← hB]; simp [atB, h0]
    have hA3 : A = 0 := by rw [← hA]; unfold atA; rw [hB, hB2]; rfl
    subst hB2 hA3
    clear hA hB h
    go_enter Try.func31, Try.ntmps31
    go_wp2
    go_ret2
    exact ⟨rfl, Fr.refl _ _⟩
end Go.Proofs.Ytjjkeemaebmcfaa
