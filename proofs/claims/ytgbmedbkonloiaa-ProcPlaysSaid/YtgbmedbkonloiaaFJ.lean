/- Contract of the program's All: the map's keys, sorted; the processes in a new row. -/
import Derived.Test.YtgbmedbkonloiaaFI
namespace Go.Proofs.Ytgbmedbkonloiaa
open Go.RowKit Go.Maps Go.Sort
set_option linter.unusedVariables false
set_option linter.unusedSimpArgs false
variable {W W' : World} {B T M : Nat} {nb : Int → Nat} {v : Value} {L : List Pr} {last : Int} {us : List Int} {S : Nat → Prop} {s : TB}
/-- processes as cells. -/
def rowsC (L : List Pr) : List Value := L.flatMap prC
theorem rowsC_len (L : List Pr) : (rowsC L).length = L.length * 7 := by
  induction L with
  | nil => rfl
  | cons x r ih => simp [rowsC, prC] at ih ⊢; omega
theorem rowsC_app (a b : List Pr) : rowsC (a ++ b) = rowsC a ++ rowsC b := by simp [rowsC]
theorem rowsC_cons (x : Pr) (r : List Pr) : rowsC (x :: r) = prC x ++ rowsC r := by simp [rowsC]
theorem rowsC_get (L : List Pr) (k : Nat) (p : Pr) (h : L[k]? = some p) (j : Nat) (hj : j < 7) : (rowsC L)[k * 7 + j]? = (prC p)[j]? := by
  induction L generalizing k with
  | nil => cases h
  | cons x r ih =>
    rw [rowsC_cons]
    cases k with
    | zero =>
      simp at h; subst h
      rw [Nat.zero_mul, Nat.zero_add, List.getElem?_append_left (by simpa [prC] using hj)]
    | succ k =>
      have := ih k (by simpa using h)
      rw [show (k + 1) * 7 + j = 7 + (k * 7 + j) by omega, List.getElem?_append_right (by simp [prC])]
      rw [show 7 + (k * 7 + j) - (prC x).length = k * 7 + j by simp [prC]]
      exact this
theorem rowsC_one (L : List Pr) : ∀ u ∈ rowsC L, u.oneCell' = true := by
  intro u hu
  obtain ⟨p, _, hp⟩ := List.mem_flatMap.1 hu
  simp [prC] at hp
  rcases hp with h | h | h | h | h | h | h <;> subst h <;> rfl
theorem prC_one (p : Pr) : ∀ u ∈ prC p, u.oneCell' = true := by
  intro u hp
  simp [prC] at hp
  rcases hp with h | h | h | h | h | h | h <;> subst h <;> rfl
theorem keys_perm {n : Nat} {D : DataW Unit} (h : W.ownsMap Try.prog 3 ptrR M n D) (hAg : Ag D L nb) (ha : L.Pairwise fun p q => p.pid < q.pid) : (L.map (·.pid)).Perm (intKeys D) := by
  have hT := h.tidy intLaw
  have hks : ∀ es, D = .map es → ∀ p ∈ es, ∃ x, p.1 = .int .i64 x := by
    intro es e p hp
    obtain ⟨es0, clock, hb, F, _, rfl⟩ := h
    cases e
    obtain ⟨key, hkey⟩ := fit_keys F p (mem_sorted.1 hp)
    obtain ⟨x, _, hs, _⟩ := Maps.keyOf_int_inv undInt hkey
    exact ⟨_, hs⟩
  obtain ⟨es, rfl, hne⟩ := hT
  refine perm_intKeys (hne.imp fun h => h) (hks es rfl) (asc_nodup ha) fun x => ?_
  rw [hAg.has, Option.isSome_iff_exists, List.mem_map]
  constructor
  · rintro ⟨p, hp, rfl⟩
    exact ⟨p, at_of_mem ha hp⟩
  · rintro ⟨p, hp⟩
    obtain ⟨h1, h2⟩ := at_some hp
    exact ⟨p, h1, h2⟩
theorem sorted_pids {ss ks : List Int} (hp : ss.Perm ks) (hl : (L.map (·.pid)).Perm ks) (ha : L.Pairwise fun p q => p.pid < q.pid) : ss.mergeSort (fun x y => decide (x ≤ y)) = L.map (·.pid) := by
  refine List.Perm.eq_of_pairwise (le := fun x y : Int => decide (x ≤ y) = true) (fun a b _ _ h1 h2 => ?_) ?_ ?_ (((List.mergeSort_perm ss _).trans hp).trans hl.symm)
  · simp at h1 h2; omega
  · exact List.pairwise_mergeSort (le := fun x y : Int => decide (x ≤ y)) (fun a b c h1 h2 => by simp at h1 h2 ⊢; omega) (fun a b => by simp; omega) ss
  · rw [List.pairwise_map]
    exact ha.imp fun h => by simp; omega
theorem info_proc : ∃ i, Try.prog.info? 32 = some i ∧ i.zero = some (.agg #[.int .i64 0, .int .i64 0, .int .i64 0, .int .i64 0, .int .i64 0, .bool false, .bool false]) ∧ i.size = 7 ∧ i.bytes = 48 := by
  obtain ⟨i, hi⟩ : ∃ i, Try.prog.info? 32 = some i := by
    cases h : Try.prog.info? 32 with
    | none => have : (Try.prog.info? 32).isSome = true := by kernel_rfl
              rw [h] at this; cases this
    | some i => exact ⟨i, rfl⟩
  have h2 : (Try.prog.info? 32).map (fun i => (i.zero, i.size, i.bytes)) = some (some (.agg #[.int .i64 0, .int .i64 0, .int .i64 0, .int .i64 0, .int .i64 0, .bool false, .bool false]), 7, 48) := by kernel_rfl
  rw [hi] at h2
  simp only [Option.map_some, Option.some.injEq, Prod.mk.injEq] at h2
  exact ⟨i, hi, h2.1, h2.2.1, h2.2.2⟩
theorem pr_new (w : World) (t : TypeId) (x : Pr) : ∀ j u, (prC x)[j]? = some u → (w.alloc (.cells (prC x).toArray t)).cell? ((⟨w.heap.size, 0, none⟩ : Addr).add j) = some u := by
  intro j u hj
  rw [Addr.add_lit, Nat.zero_add]
  exact lay_pr w t x j u hj
def allRel (W : World) (B0 : Nat) (L : List Pr) (iv v : Value) (wr : World) : Prop :=
  ∃ k : Nat, iv = .int .i64 k ∧ k ≤ L.length ∧ wr.ownsRow B0 32 7 v k (rowsC (L.take k)) ∧ Below B0 W wr
set_option maxRecDepth 100000 in
set_option maxHeartbeats 4000000 in
theorem all_any (h : PR W B T M nb v L last us) (ha : L.Pairwise fun p q => p.pid < q.pid) (hr : ∀ p ∈ L, 1 ≤ p.pid ∧ p.pid ≤ last) (hlen : (L.length : Int) ≤ last) (hb : last ≤ 1000000) :
    Calls Try.prog 16 #[.pointer (some ⟨T, 0, none⟩)] W fun e w' => ∃ v', e = .returned v' ∧ w'.ownsRow W.heap.size 32 7 v' L.length (rowsC L) ∧ Fr (fun _ => False) W w' := by
  obtain ⟨c0, -, -⟩ := h.cell
  obtain ⟨D, hown, hAg⟩ := h.map
  have hsz := hAg.size
  have hperm := keys_perm hown hAg ha
  have HK := Lib.hid fun w => (callsIn_wide (n := 5)).1 (Try.maps_Keys_30 (some M) w)
  have HS := Lib.hid ((callsIn_wide (n := 5)).1 (Try.slices_Sorted_keys_29_30 M _ D ptrR W hown (by rw [hsz]; unfold maxLen; omega) (by rw [hsz]; omega)))
  have HPm := Lib.hid hperm
  have HA := Lib.hid ha
  have HP := Lib.hid h
  have HR := Lib.hid hr
  obtain ⟨i0, hi, hz0, hz1, hz2⟩ := info_proc
  clear h ha hAg hown hsz hperm hr
  go_enter Try.func16, Try.ntmps16
  go_wp2_with (first
    | (go_at_call 30; refine (HK.out _).mono ?_; rintro e w' ⟨rfl, rfl⟩)
    | (go_at_call 29; refine HS.out.mono ?_; rintro e w2 ⟨kv, ss, rfl, hSS, hrow, hnil, hbel⟩; have hform := own_form hrow; obtain ⟨ao, cap, rfl, hcap⟩ := hform))
  rw [sorted_pids hSS HPm.out HA.out] at hrow
  have hl : ss.length = L.length := by rw [hSS.length_eq, ← HPm.out.length_eq, List.length_map]
  rw [hl] at hrow hcap ⊢
  have hF2 : Fr (fun _ => False) W w2 := ((Fr.refl _ W).alloc _).trans (Fr.of_below hbel)
  have HF2 := Lib.hid hF2
  have HROW := Lib.hid hrow
  clear hF2 hrow hSS hnil hbel hl HPm HK HS
  go_loopw [13, 3] (fun iv vv wr => allRel w2 w2.heap.size L iv vv wr) (fun iv _ _ => L.length - (Lib.intOf iv).toNat)
  case atStart => exact ⟨0, rfl, Nat.zero_le _, World.ownsRow_nil _ _ _ _, Below.refl _ _⟩
  case round =>
    obtain ⟨k, rfl, hk, hown, hbel⟩ := hrel
    by_cases hlt : k < L.length
    · have hp : L[k]? = some (L[k]'hlt) := List.getElem?_eq_getElem _
      have hmem : L[k]'hlt ∈ L := List.getElem_mem _
      generalize L[k]'hlt = p at hp hmem
      obtain ⟨g, cap', hv, hg1, hg2⟩ := HROW.out.form (by omega)
      cases hv
      have hkc : w2.cell? ⟨g, k, none⟩ = some (.int .i64 p.pid) := by
        rw [HROW.out.cellAt k (by omega), List.map_map, List.getElem?_map, hp]
        rfl
      have hkr : wr.cell? ⟨g, k, none⟩ = some (.int .i64 p.pid) := (hbel.cell (p := ⟨g, k, none⟩) hg2).trans hkc
      have hF : Fr (fun _ => False) W wr := HF2.out.trans (Fr.of_below hbel)
      have hPR := HP.out.fr hF fun _ _ => id
      have hat := at_of_mem HA.out hmem
      obtain ⟨r1, r2⟩ := HR.out p hmem
      have hlook := hPR.look (x := p.pid) ⟨by omega, by omega⟩
      rw [ptrV_some hat] at hlook
      obtain ⟨c0, -, -⟩ := hPR.cell
      obtain ⟨k0, k1, k2, k3, k4, k5, k6⟩ := hPR.cells hat
      have i1 : (0 : Int) ≤ (k : Int) := by omega
      have i2 : (k : Int) < (L.length : Int) := by omega
      have htk : L.take (k + 1) = L.take k ++ [p] := by rw [List.take_add_one, hp]; rfl
      have HTK := Lib.hid htk
      have HBEL := Lib.hid hbel
      have HOW := Lib.hid (hown.alloc (.cells (prC p).toArray 32))
      have hB0 : w2.heap.size ≤ wr.heap.size := hbel.size
      clear hF hPR hat hmem hkc hp htk hbel hown
      generalize nb p.pid = b at *
      go_wp2_with (refine wpList_append_own_at _ rfl _ _ 44 rfl w2.heap.size 32 i0 _ 7 48 Try.underlying44 hi hz0 hz1 hz2 rfl (by decide) _ k (rowsC (L.take k)) rfl HOW.out ⟨wr.heap.size, 0, none⟩ 1 1 (prC p) rfl rfl (pr_new wr _ p) (prC_one p) (by unfold maxLen; omega) (by omega) (by simp; omega) ?_; intro v' w3 hown' hgrow hnil hat; go_frame)
      go_roundw
      case rel =>
        refine ⟨k + 1, by go_num, by omega, ?_, ?_⟩
        · rw [HTK.out, rowsC_app]
          simpa [rowsC] using hown'
        · exact (HBEL.out.alloc HBEL.out.size _).grown hgrow (by simp; omega) fun j hj => (HOW.out.lt j hj).1
      case measure => simp [Lib.intOf]; omega
    · have hkl : k = L.length := by omega
      subst hkl
      rw [List.take_length] at hown
      have i2 : ¬ ((L.length : Int) < (L.length : Int)) := by omega
      have HO := Lib.hid hown
      have HBEL := Lib.hid hbel
      clear hown hbel
      go_wp2
      go_ret
      refine ⟨_, rfl, ?_, HF2.out.trans (Fr.of_below HBEL.out)⟩
      have := HF2.out.size
      refine ⟨HO.out.1, ?_⟩
      rcases HO.out.2 with h1 | ⟨g, cap, cur, h1, h2, h3⟩
      · exact .inl h1
      · exact .inr ⟨g, cap, cur, h1, Nat.le_trans this h2, h3⟩
end Go.Proofs.Ytgbmedbkonloiaa
