/- The document's Read. -/
import Derived.Test.YtojbgokbobkbdaaET
namespace Go.Proofs.Ytojbgokbobkbdaa
open Go.RowKit
set_option linter.unusedVariables false
set_option linter.unusedSimpArgs false
variable {W W' : World} {B D : Nat} {v : Value} {off : Bool} {L : List Bs} {line sh : Bs} {R : Nat → Prop} {s : TS}
set_option maxRecDepth 100000 in
set_option maxHeartbeats 2000000 in
theorem rread_none (n : Int) (hn : n < 1 ∨ (1 ≤ n ∧ s.L = [])) (h : DAt W B D R s) :
    Calls Try.prog 22 #[.pointer (some ⟨D, 0, none⟩), .int .i64 n] W fun r w' => r = .returned (.tuple #[.string ⟨#[]⟩, .bool false]) ∧ DDoes W B D R s w' := by
  have H := Lib.hid h
  rcases hn with hn | ⟨hn, hL⟩
  · clear h
    go_enter Try.func22, Try.ntmps22
    go_wp2
    go_ret2
    exact ⟨rfl, H.out.does⟩
  · have hc : ∃ ao cap, W.cell? ⟨D, 0, none⟩ = some (.slice ao 0 cap) := by
      obtain ⟨v, h1, hR⟩ := h
      obtain ⟨ao, cap, hv, -, -⟩ := ownG_form h1.o
      rw [hL] at hv
      exact ⟨ao, cap, hv ▸ h1.cell.1⟩
    obtain ⟨ao, cap, c0⟩ := hc
    have hn2 : ¬ n < 1 := by omega
    clear h hL
    go_enter Try.func22, Try.ntmps22
    go_wp2
    go_ret2
    exact ⟨rfl, H.out.does⟩
theorem rows_one (L : List Bs) : ∀ u ∈ rowsC L, u.oneCell' = true := by
  intro u hu
  unfold rowsC at hu
  obtain ⟨x, _, hx⟩ := List.mem_flatMap.1 hu
  simp [lineC] at hx
  rcases hx with hx | hx <;> subst hx <;> rfl
theorem rows_tail {g cap : Nat} {x : Bs} {r : List Bs} (h : W.ownsRow B 57 2 (.slice (some ⟨g, 0, none⟩) (r.length + 1) cap) (r.length + 1) (rowsC (x :: r))) : ∀ j u, (rowsC r)[j]? = some u → W.cell? ⟨g, 2 + j, none⟩ = some u := by
  intro j u hj
  have hl : j < (rowsC r).length := (List.getElem?_eq_some_iff.1 hj).1
  rw [rowsC_len] at hl
  rw [h.cellAt (2 + j) (by omega), rowsC_cons, List.getElem?_append_right (by simp [lineC])]
  rw [show 2 + j - (lineC x).length = j by simp [lineC]]
  exact hj
theorem step_append_at {P : Program} {w : World} {ops : Array Oper} {o : Oper} {a : Act} {K : Act → World → Prop} {Q : Exit → Act → World → Prop} {E : Prop} (hgd : o.guard = none) (s x : Operand) (t : TypeId)
    (ho : o.op = .call { callee := .builtin .append, args := #[s, x], argTypes := #[t, t] })
    (base : Nat) (e : TypeId) (i : TypeInfo) (z : Value) (size bytes : Nat) (ht : P.underlying t = some (.slice e)) (hi : P.info? e = some i) (hz : i.zero = some z)
    (hsize : i.size = size) (hby : i.bytes = bytes) (hzs : z.cells.size = size) (hsz : 0 < size)
    (v : Value) (n : Nat) (xs : List Value) (hs : a.eval s = v) (hown : w.ownsRow base e size v n xs)
    (ad : Addr) (m c : Nat) (news : List Value) (hx : a.eval x = .slice (some ad) m c) (hl : news.length = m * size) (hnews : ∀ j u, news[j]? = some u → w.cell? (ad.add j) = some u) (h1 : ∀ u ∈ news, u.oneCell' = true)
    (h63 : n + m ≤ maxLen) (hbytes : (n + m) * bytes ≤ 140737488355328) (hbase : base ≤ w.heap.size)
    (h : ∀ v' w', w'.ownsRow base e size v' (n + m) (xs ++ news) → w.grownBy w' v.ownBlock → (v'.ownBlock = v.ownBlock ∨ v'.ownBlock = some w.heap.size) → K (a.put o.dst v') w') :
    if Region.wanted o (yielded ops a.tmps) = true then Oper.wp P o a w K Q else E := by
  have hw : Region.wanted o (yielded ops a.tmps) = true := by simp [Region.wanted, hgd]
  rw [if_pos hw]
  obtain ⟨v', w', hr, h2, h3, h4, h5⟩ := run_append_own_at (P := P) w base t o.type e i z size bytes ht hi hz hsize hby hzs hsz v n xs hown ad m c news hl hnews h1 h63 hbytes hbase
  unfold Oper.wp execOp
  simp only [ho, resolve, invoke, builtin, Sem.run_bind, Sem.run_pure, Result.andThen_ok, List.map_toArray, List.map_cons, List.map_nil, hs, hx, hr]
  exact h v' w' h2 h3 h5
set_option maxRecDepth 100000 in
set_option maxHeartbeats 4000000 in
theorem rread_whole (n : Int) (hn : 1 ≤ n) (x : Bs) (r : List Bs) (hx : ¬ n < x.length) (h : DAt W B D R ⟨x :: r, line, off, sh⟩) (hk : Ok ⟨x :: r, line, off, sh⟩) :
    Calls Try.prog 22 #[.pointer (some ⟨D, 0, none⟩), .int .i64 n] W fun r' w' => r' = .returned (.tuple #[.string ⟨x.toArray⟩, .bool true]) ∧ DDoes W B D R ⟨r, line, off, sh⟩ w' := by
  obtain ⟨v, h1, hR⟩ := h
  simp only at h1
  obtain ⟨g, cap, hv, hgB, hgl⟩ := h1.o.form (by simp)
  subst hv
  have hkl := hk.lines
  simp only [List.length_cons] at hkl
  obtain ⟨c0, -, -, -⟩ := h1.cell
  simp only [List.length_cons] at c0
  have hn2 : ¬ n < 1 := by omega
  have hne : ((r.length : Int) + 1 == 0) = false := by simp; omega
  have hcap : r.length + 1 ≤ cap := by
    obtain ⟨_, _, e1, e2, _⟩ := ownG_form h1.o
    cases e1
    exact e2
  have hx0 : W.cell? ⟨g, 0, none⟩ = some (encStr x) := (h1.o.cellAt 0 (by simp)).trans rfl
  have hx1 : W.cell? ⟨g, 1, none⟩ = some (.bool (x.length == 0)) := (h1.o.cellAt 1 (by simp; omega)).trans rfl
  have hxs := ba_size x
  have hX : ∃ X, X = (⟨x.toArray⟩ : ByteArray) := ⟨_, rfl⟩
  obtain ⟨X, hX⟩ := hX
  unfold encStr at hx0
  rw [← hX] at hx0 hxs ⊢
  have hxn : ((X.size : Int) ≤ n) := by omega
  have H1 := Lib.hid h1
  have hDlt : D < W.heap.size := heap_lt h1.hb
  have hgD : g ≠ D := h1.nD g rfl
  have hBW : B ≤ W.heap.size := Nat.le_trans h1.base (Nat.le_of_lt hDlt)
  obtain ⟨i0, hi, hz0, hz1, hz2⟩ := info_line
  have HT := Lib.hid (rows_tail h1.o)
  generalize (x.length == 0) = fl at *
  have fW2 : Fr (fun _ => False) W ((W.alloc (.cells #[.string X, .bool fl] 57)).alloc (.cells #[] 57)) := ((Fr.refl _ W).alloc _).alloc _
  have H2 := Lib.hid (h1.fr fW2 (fun _ _ => id))
  have FW2 := Lib.hid fW2
  have HO := Lib.hid (World.ownsRow_made (base := B) (e := 57) (size := 2) (W.alloc (.cells #[.string X, .bool fl] 57)) #[] 0 (by rw [World.size_alloc]; omega) (by decide) rfl)
  rw [World.size_alloc] at HO
  have HXC : ((W.alloc (.cells #[.string X, .bool fl] 57)).alloc (.cells #[] 57)).cell? ⟨W.heap.size, 0, none⟩ = some (.string X) := by
    have h0 : (W.alloc (.cells #[.string X, .bool fl] 57)).cell? ⟨W.heap.size, 0, none⟩ = some (.string X) := by
      rw [cell_of_row _ W.heap.size 0 _ _ (0, 0) (heap_alloc_new W _)]; rfl
    exact (World.cell?_of_block (Below.heap_alloc _ _ _ (by rw [World.size_alloc]; exact Nat.lt_succ_self _))).trans h0
  have HXCH := Lib.hid HXC
  clear HXC h1 hk hX hxs hx fW2
  obtain ⟨ad, hhx, hnews⟩ : ∃ ad : Addr, (if cap = 1 then some (⟨g, 0, none⟩ : Addr) else some ⟨g, 2, none⟩) = some ad ∧ ∀ j u, (rowsC r)[j]? = some u → ((W.alloc (.cells #[.string X, .bool fl] 57)).alloc (.cells #[] 57)).cell? (ad.add j) = some u := by
    by_cases hc : cap = 1
    · refine ⟨⟨g, 0, none⟩, by rw [if_pos hc], fun j u hj => ?_⟩
      have : r = [] := List.eq_nil_of_length_eq_zero (by omega)
      rw [this] at hj
      cases hj
    · refine ⟨⟨g, 2, none⟩, by rw [if_neg hc], fun j u hj => ?_⟩
      rw [Addr.add_lit]
      exact FW2.out.cell (HT.out j u hj) id
  have HN := Lib.hid hnews
  clear hnews HT
  have fin : ∀ (v' : Value) (w3 : World), w3.ownsRow B 57 2 v' r.length (rowsC r) → ((W.alloc (.cells #[.string X, .bool fl] 57)).alloc (.cells #[] 57)).grownBy w3 (some (W.heap.size + 1)) → (v'.ownBlock = some (W.heap.size + 1) ∨ v'.ownBlock = some (W.heap.size + 1 + 1)) →
      w3.cell? ⟨D, 0, none⟩ = some (.slice (some ⟨g, 0, none⟩) (r.length + 1) cap) ∧ w3.frozen? ⟨D, 0, none⟩ = false ∧ w3.cell? ⟨W.heap.size, 0, none⟩ = some (.string X) ∧ DDoes W B D R ⟨r, line, off, sh⟩ (w3.setCell ⟨D, 0, none⟩ v') := by
    intro v' w3 k1 k2 k3
    have f3 := Fr.grown k2
    have hs2 : ∀ k, Bd D (.slice (some ⟨g, 0, none⟩) (x :: r).length cap) k → ¬ some (W.heap.size + 1) = some k := by
      intro k hk he
      have h1 := Option.some.inj he
      have := (H1.out.lt hk).2
      omega
    have h3 := H2.out.fr f3 hs2
    refine ⟨h3.cell.1, h3.frozen 0, f3.cell HXCH.out (by intro he; have := Option.some.inj he; omega), _, ⟨v', h3.s0 k1, rfl⟩, ?_, ?_⟩
    · rw [hR]
      refine Fr.setCell (p := ⟨D, 0, none⟩) ?_ (.inl (.inl rfl)) _
      refine ⟨f3.os.trans FW2.out.os, f3.tape.trans FW2.out.tape, f3.output.trans FW2.out.output, Nat.le_trans FW2.out.size f3.size, fun k hk hn => (f3.block k (Nat.lt_of_lt_of_le hk FW2.out.size) (by intro he; have := Option.some.inj he; omega)).trans (FW2.out.block k hk id)⟩
    · intro k hk
      rcases hk with hk | hk
      · exact .inl (by rw [hR]; exact .inl hk)
      · right
        rcases k3 with k3 | k3 <;> rw [k3] at hk <;> have hk2 := Option.some.inj hk <;> omega
  have FIN := Lib.hid fin
  clear fin H1 H2 FW2 HXCH
  by_cases hc : cap = 1
  · subst hc
    obtain rfl : r = [] := List.eq_nil_of_length_eq_zero (by omega)
    obtain ⟨q1, q2, q3, q4⟩ := FIN.out (.slice (some ⟨W.heap.size + 1, 0, none⟩) 0 0) _ HO.out ⟨rfl, rfl, rfl, Nat.le_refl _, fun _ _ _ => rfl⟩ (.inl rfl)
    rw [World.setCell_alloc_past _ D 0 _ (show D < (W.alloc (.cells #[.string X, .bool fl] 57)).heap.size by rw [World.size_alloc]; exact Nat.lt_succ_of_lt hDlt), World.setCell_alloc_past _ D 0 _ hDlt] at q4
    have Q4 := Lib.hid q4
    have hne2 : W.heap.size ≠ D := by omega
    clear q4 FIN HO HN hhx
    go_enter Try.func22, Try.ntmps22
    go_wp2
    go_ret2
    exact ⟨rfl, by first | exact Q4.out | exact hR ▸ Q4.out⟩
  · rw [if_neg hc] at hhx
    cases hhx
    go_enter Try.func22, Try.ntmps22
    go_wp2_with (refine wpList_append_own_at _ rfl _ _ 27 rfl B 57 i0 _ 2 24 Try.underlying27 hi hz0 hz1 hz2 rfl (by decide) (.slice (some ⟨W.heap.size + 1, 0, none⟩) 0 0) 0 [] rfl HO.out ⟨g, 2, none⟩ r.length (cap - 1) (rowsC r) rfl (rowsC_len r) HN.out (rows_one r) (by unfold maxLen; omega) (by omega) (by simp; omega) ?_)
    intro v' w3 hown hgrow hnil hat
    have hat2 : v'.ownBlock = some (W.heap.size + 1) ∨ v'.ownBlock = some (W.heap.size + 1 + 1) := by simpa [Value.ownBlock] using hat
    obtain ⟨q1, q2, q3, q4⟩ := FIN.out v' w3 hown hgrow hat2
    obtain ⟨ao, cap3, rfl, -, -⟩ := ownG_form hown
    have Q4 := Lib.hid q4
    have hne2 : W.heap.size ≠ D := by omega
    clear hown hgrow hnil hat hat2 q4 hx0 hx1 c0 FIN HO HN
    generalize W.heap.size = H at *
    go_wp2
    go_ret2
    exact ⟨rfl, Q4.out⟩
theorem ownRow_fresh (w : World) (u : Value) (f : Value) (B : Nat) (hb : B ≤ w.heap.size) : (w.alloc (.cells #[u, f] 57)).ownsRow B 57 2 (.slice (some ⟨w.heap.size, 0, none⟩) 1 1) 1 [u, f] :=
  ⟨rfl, .inr ⟨w.heap.size, 1, _, rfl, hb, heap_alloc_new w _, Nat.le_refl _, by decide, rfl, rfl⟩⟩
set_option maxRecDepth 100000 in
set_option maxHeartbeats 4000000 in
theorem rread_part (k : Nat) (hn : 1 ≤ k) (x : Bs) (r : List Bs) (hx : k < x.length) (h : DAt W B D R ⟨x :: r, line, off, sh⟩) (hk : Ok ⟨x :: r, line, off, sh⟩) :
    Calls Try.prog 22 #[.pointer (some ⟨D, 0, none⟩), .int .i64 (k : Int)] W fun r' w' => r' = .returned (.tuple #[.string ⟨(x.take k).toArray⟩, .bool true]) ∧ DDoes W B D R ⟨x.drop k :: r, line, off, sh⟩ w' := by
  obtain ⟨v, h1, hR⟩ := h
  simp only at h1
  obtain ⟨g, cap, hv, hgB, hgl⟩ := h1.o.form (by simp)
  subst hv
  have hkl := hk.lines
  have hka := hk.all
  simp only [List.length_cons] at hkl
  simp only [cnt] at hka
  obtain ⟨c0, -, -, -⟩ := h1.cell
  simp only [List.length_cons] at c0
  have hn2 : ¬ (k : Int) < 1 := by omega
  have hne : ((r.length : Int) + 1 == 0) = false := by simp; omega
  have hcap : r.length + 1 ≤ cap := by
    obtain ⟨_, _, e1, e2, _⟩ := ownG_form h1.o
    cases e1
    exact e2
  have hx0 : W.cell? ⟨g, 0, none⟩ = some (encStr x) := (h1.o.cellAt 0 (by simp)).trans rfl
  have hx1 : W.cell? ⟨g, 1, none⟩ = some (.bool (x.length == 0)) := (h1.o.cellAt 1 (by simp; omega)).trans rfl
  rw [show (x.length == 0) = false by simp; intro h; rw [h] at hx; simp at hx] at hx1
  have hxs := ba_size x
  have hext := ba_drop x k
  have hext2 := ba_take x k
  obtain ⟨X, hX⟩ : ∃ X, X = (⟨x.toArray⟩ : ByteArray) := ⟨_, rfl⟩
  unfold encStr at hx0
  rw [← hX] at hx0 hxs hext hext2
  rw [← hxs] at hext
  have hxn : ¬ ((X.size : Int) ≤ k) := by omega
  have hxb : (k : Int) ≤ X.size := by omega
  have H1 := Lib.hid h1
  have hDlt : D < W.heap.size := heap_lt h1.hb
  have hgD : g ≠ D := h1.nD g rfl
  have hBW : B ≤ W.heap.size := Nat.le_trans h1.base (Nat.le_of_lt hDlt)
  obtain ⟨i0, hi, hz0, hz1, hz2⟩ := info_line
  have HT := Lib.hid (rows_tail h1.o)
  have hds : (false : Bool) = ((x.drop k).length == 0) := by simp; omega
  have HDS := Lib.hid hds
  clear h1 hk hX hxs hx hds hka
  go_enter Try.func22, Try.ntmps22
  go_wp2_with fail
  have hDR := H1.out.fr (S := fun _ => False) ((Fr.refl _ W).alloc (.cells #[.string X, .bool false] 57)) (fun _ _ => id)
  have FW := Lib.hid ((Fr.refl (fun _ => False) W).alloc (.cells #[.string X, .bool false] 57))
  have xc : (W.alloc (.cells #[.string X, .bool false] 57)).cell? ⟨W.heap.size, 0, none⟩ = some (.string X) := by
    rw [cell_of_row _ W.heap.size 0 _ _ (0, 0) (heap_alloc_new W _)]; rfl
  have hHs : (W.alloc (.cells #[.string X, .bool false] 57)).heap.size = W.heap.size + 1 := World.size_alloc ..
  have hHD : W.heap.size ≠ D := by omega
  have HWS := Lib.hid (fun k (hk : Bd D (.slice (some ⟨g, 0, none⟩) (x :: r).length cap) k) => (H1.out.lt hk).2)
  clear c0 hx0 hx1 H1
  generalize hw1 : W.alloc (.cells #[.string X, .bool false] 57) = w1 at *
  obtain ⟨H, hH⟩ : ∃ H, H = W.heap.size := ⟨_, rfl⟩
  rw [← hH] at xc hHs hHD ⊢
  clear hw1
  have HWH := Lib.hid hH
  have hBH : B ≤ H := by omega
  have hDH : D < H := by omega
  have hgH : g < H := by omega
  clear hH
  have hDlt1 : D < w1.heap.size := by omega
  have hHlt1 : H < w1.heap.size := by omega
  have hglt1 : g < w1.heap.size := by omega
  have hB1 : B ≤ w1.heap.size := by omega
  have HHS := Lib.hid hHs
  clear hHs
  have hDD := hDR.fr (S := fun _ => False) ((Fr.refl _ w1).drew) (fun _ _ => id)
  obtain ⟨c0, -, -, -⟩ := hDR.cell
  obtain ⟨d0, -, -, -⟩ := hDD.cell
  simp only [List.length_cons] at c0 d0
  have f0 := hDR.frozen 0
  have e0 := hDD.frozen 0
  have xc2 : w1.drew.cell? ⟨H, 0, none⟩ = some (.string X) := xc
  have hA := hDD.fr (S := fun _ => False) ((Fr.refl _ w1.drew).alloc (.cells #[.string ⟨(x.drop k).toArray⟩, .bool false] 57)) (fun _ _ => id)
  have HA := Lib.hid hA
  have HO := Lib.hid (ownRow_fresh w1.drew (.string ⟨(x.drop k).toArray⟩) (.bool false) B hB1)
  have HRL := Lib.hid (rows_tail hDR.o)
  have hn5 : ∀ j u, (rowsC r)[j]? = some u → (w1.drew.alloc (.cells #[.string ⟨(x.drop k).toArray⟩, .bool false] 57)).cell? ((⟨g, 2, none⟩ : Addr).add j) = some u := by
    intro j u hj
    rw [Addr.add_lit]
    exact Fr.cell (S := fun _ => False) ((Fr.refl _ w1.drew).alloc _) (HRL.out j u hj) id
  have HN := Lib.hid hn5
  have fin : ∀ (v' : Value) (w3 : World), w3.ownsRow B 57 2 v' (1 + r.length) ([.string ⟨(x.drop k).toArray⟩, .bool false] ++ rowsC r) → (w1.drew.alloc (.cells #[.string ⟨(x.drop k).toArray⟩, .bool false] 57)).grownBy w3 (some w1.heap.size) → (v'.ownBlock = some w1.heap.size ∨ v'.ownBlock = some (w1.heap.size + 1)) →
      w3.cell? ⟨D, 0, none⟩ = some (.slice (some ⟨g, 0, none⟩) (r.length + 1) cap) ∧ w3.frozen? ⟨D, 0, none⟩ = false ∧ w3.cell? ⟨H, 0, none⟩ = some (.string X) ∧ DDoes W B D R ⟨x.drop k :: r, line, off, sh⟩ (w3.setCell ⟨D, 0, none⟩ v') := by
    intro v' w3 k1 k2 k3
    have f3 := Fr.grown k2
    have k1' : w3.ownsRow B 57 2 v' (x.drop k :: r).length (rowsC (x.drop k :: r)) := by
      rw [rowsC_cons, List.length_cons, Nat.add_comm]
      unfold lineC
      rw [← HDS.out]
      exact k1
    have hlt : ∀ k, Bd D (.slice (some ⟨g, 0, none⟩) (x :: r).length cap) k → k < w1.heap.size := fun k hk => (hDR.lt hk).2
    have hs2 : ∀ k, Bd D (.slice (some ⟨g, 0, none⟩) (x :: r).length cap) k → ¬ some w1.heap.size = some k := by
      intro k hk he
      have h1 := Option.some.inj he
      have := hlt k hk
      omega
    have h3 := HA.out.fr f3 hs2
    have fall : Fr (fun _ => False) W (w1.drew.alloc (.cells #[.string ⟨(x.drop k).toArray⟩, .bool false] 57)) := (FW.out.drew).alloc _
    refine ⟨h3.cell.1, h3.frozen 0, f3.cell (Fr.cell (S := fun _ => False) ((Fr.refl _ w1.drew).alloc _) xc2 id) (by intro he; have := Option.some.inj he; omega), _, ⟨v', h3.s0 k1', rfl⟩, ?_, ?_⟩
    · rw [hR]
      refine Fr.setCell (p := ⟨D, 0, none⟩) ?_ (.inl (.inl rfl)) _
      refine ⟨f3.os.trans fall.os, f3.tape.trans fall.tape, f3.output.trans fall.output, Nat.le_trans fall.size f3.size, fun k hk hn => (f3.block k (Nat.lt_of_lt_of_le hk fall.size) (by intro he; have := Option.some.inj he; have := HWH.out; have := HHS.out; omega)).trans (fall.block k hk id)⟩
    · intro k hk
      rcases hk with hk | hk
      · exact .inl (by rw [hR]; exact .inl hk)
      · right
        have := HWH.out
        have := HHS.out
        rcases k3 with k3 | k3 <;> rw [k3] at hk <;> have hk2 := Option.some.inj hk <;> omega
  have FIN := Lib.hid fin
  have hnz : ¬ (r.length + 1 = 0) := by omega
  clear hDR hDD hA hn5 fin FW HWS
  by_cases hc : cap = 1
  · subst hc
    obtain rfl : r = [] := List.eq_nil_of_length_eq_zero (by omega)
    go_region_law (first
      | (refine step_append_at (by rfl) _ _ 27 (by rfl) B 57 i0 _ 2 24 Try.underlying27 hi hz0 hz1 hz2 (by rfl) (by decide) (.slice (some ⟨w1.heap.size, 0, none⟩) 1 1) 1 [.string ⟨(x.drop k).toArray⟩, .bool false] (by rfl) HO.out ⟨g, 0, none⟩ 0 0 [] (by rfl) (by rfl) (by intro j u hj; cases hj) (by intro u hu; cases hu) (by unfold maxLen; omega) (by omega) (by simp; omega) ?_
         intro v' w3 hown hgrow hat
         obtain ⟨q1, q2, q3, q4⟩ := FIN.out v' w3 hown hgrow (by simpa [Value.ownBlock] using hat)
         obtain ⟨ao, cap3, rfl, -, -⟩ := ownG_form hown
         have Q4 := Lib.hid q4
         clear hown hgrow hat q4))
    all_goals
      have Q5 : DDoes W B D R ⟨x.drop k :: [], line, off, sh⟩ (w3.setCell ⟨D, 0, none⟩ (.slice ao 1 cap3)) := Q4.out
      have Q6 := Lib.hid Q5
      clear Q4 Q5 FIN HO HN HA HRL c0 d0 f0 e0 xc xc2
      go_wp2
      go_ret2
      exact ⟨rfl, Q6.out⟩
  · have hc2 : ¬ cap = 1 := hc
    have hr1 : (1 : Int) ≤ (r.length : Int) + 1 := by omega
    go_region_law (first
      | (refine step_append_at (by rfl) _ _ 27 (by rfl) B 57 i0 _ 2 24 Try.underlying27 hi hz0 hz1 hz2 (by rfl) (by decide) (.slice (some ⟨w1.heap.size, 0, none⟩) 1 1) 1 [.string ⟨(x.drop k).toArray⟩, .bool false] (by rfl) HO.out ⟨g, 2, none⟩ r.length (cap - 1) (rowsC r) (by rfl) (rowsC_len r) HN.out (rows_one r) (by unfold maxLen; omega) (by omega) (by simp; omega) ?_
         intro v' w3 hown hgrow hat
         obtain ⟨q1, q2, q3, q4⟩ := FIN.out v' w3 hown hgrow (by simpa [Value.ownBlock] using hat)
         obtain ⟨ao, cap3, rfl, -, -⟩ := ownG_form hown
         have Q4 := Lib.hid q4
         clear hown hgrow hat q4))
    all_goals
      clear FIN HO HN HA HRL c0 d0 f0 e0 xc xc2
      go_wp2
      go_ret2
      exact ⟨rfl, Q4.out⟩
theorem rread_any (n : Int) (h : DAt W B D R s) (hk : Ok s) :
    Calls Try.prog 22 #[.pointer (some ⟨D, 0, none⟩), .int .i64 n] W fun r w' => r = .returned (readV n s) ∧ DDoes W B D R (readP n s) w' := by
  obtain ⟨L, line, off, sh⟩ := s
  by_cases hn : n < 1
  · have R1 : readP n ⟨L, line, off, sh⟩ = ⟨L, line, off, sh⟩ := if_pos hn
    have R2 : readV n ⟨L, line, off, sh⟩ = .tuple #[.string ⟨#[]⟩, .bool false] := by unfold readV readS readB; rw [if_pos hn, if_pos hn]
    rw [R1, R2]
    exact rread_none n (.inl hn) h
  · cases L with
    | nil =>
      have R1 : readP n ⟨[], line, off, sh⟩ = ⟨[], line, off, sh⟩ := (read_none n line sh off).1
      have R2 : readV n ⟨[], line, off, sh⟩ = .tuple #[.string ⟨#[]⟩, .bool false] := by unfold readV; rw [(read_none n line sh off).2.1, (read_none n line sh off).2.2]
      rw [R1, R2]
      exact rread_none n (.inr ⟨by omega, rfl⟩) h
    | cons x r =>
      by_cases hx : n < x.length
      · obtain ⟨k, rfl⟩ : ∃ k : Nat, n = k := ⟨n.toNat, by omega⟩
        have R1 : readP (k : Int) ⟨x :: r, line, off, sh⟩ = ⟨x.drop k :: r, line, off, sh⟩ := by
          unfold readP; rw [if_neg hn]; exact if_pos hx
        have R2 : readV (k : Int) ⟨x :: r, line, off, sh⟩ = .tuple #[.string ⟨(x.take k).toArray⟩, .bool true] := by
          unfold readV readS readB; rw [if_neg hn, if_neg hn]; simp only; rw [if_pos hx]; rfl
        rw [R1, R2]
        exact rread_part k (by omega) x r (by omega) h hk
      · have R1 : readP n ⟨x :: r, line, off, sh⟩ = ⟨r, line, off, sh⟩ := by
          unfold readP; rw [if_neg hn]; exact if_neg hx
        have R2 : readV n ⟨x :: r, line, off, sh⟩ = .tuple #[.string ⟨x.toArray⟩, .bool true] := by
          unfold readV readS readB; rw [if_neg hn, if_neg hn]; simp only; rw [if_neg hx]
        rw [R1, R2]
        exact rread_whole n (by omega) x r hx h hk
end Go.Proofs.Ytojbgokbobkbdaa
