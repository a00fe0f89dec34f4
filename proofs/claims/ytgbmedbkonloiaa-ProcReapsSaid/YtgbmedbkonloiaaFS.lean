/- Contract of the document's Wait. -/
import Derived.Test.YtgbmedbkonloiaaFR
namespace Go.Proofs.Ytgbmedbkonloiaa
open Go.RowKit
set_option linter.unusedVariables false
set_option linter.unusedSimpArgs false
attribute [local go_sem ↓] Go.wp_at_zero Go.wp_at_succ
section
variable {W W' : World} {B D : Nat} {v u : Value} {L : List Pr} {last : Int} {us : List Int} {R : Nat → Prop} {s : TB}
theorem News.fr {W W' : World} {p : Option Addr} {m : Nat} {news : List Value} {S : Nat → Prop} (h : News W p m news) (hf : Fr S W W') (hs : ∀ g off, p = some ⟨g, off, none⟩ → ¬ S g) : News W' p m news :=
  ⟨h.1, h.2.1, fun h0 => by
    obtain ⟨g, off, hp, hc⟩ := h.2.2 h0
    exact ⟨g, off, hp, fun j u hu => hf.cell (hc j u hu) (hs g off hp)⟩⟩
/-- a piece of the table's row, as cells that are to be appended. -/
theorem news_of {g cap : Nat} (h : W.ownsRow B 35 7 (.slice (some ⟨g, 0, none⟩) L.length cap) L.length (rowsC L)) (i m : Nat) (hm : i + m ≤ L.length) : News W (some ⟨g, i * 7, none⟩) m (rowsC ((L.drop i).take m)) := by
  refine ⟨by rw [rowsC_len, List.length_take, List.length_drop]; congr 1; omega, rowsC_one _, fun _ => ⟨g, i * 7, rfl, fun j u hu => ?_⟩⟩
  have hj : j < m * 7 := by
    have := (List.getElem?_eq_some_iff.1 hu).1
    rw [rowsC_len, List.length_take, List.length_drop] at this
    omega
  have e : j = (j / 7) * 7 + j % 7 := by omega
  have hk : j / 7 < m := by omega
  have hp : ((L.drop i).take m)[j / 7]? = L[i + j / 7]? := by rw [List.getElem?_take, if_pos hk, List.getElem?_drop]
  have hlt : i + j / 7 < L.length := by omega
  rw [List.getElem?_eq_getElem hlt] at hp
  rw [e, rowsC_get _ _ _ hp _ (by omega)] at hu
  have := row_cells h (List.getElem?_eq_getElem hlt) (j % 7) u hu
  rw [show i * 7 + j = (i + j / 7) * 7 + j % 7 by omega]
  exact this
/-- only new blocks are written. -/
theorem Fr.into {a b c : World} {g : Nat} (h : Fr (fun _ => False) a b) (k : b.grownBy c (some g)) (hg : a.heap.size ≤ g) : Fr (fun _ => False) a c :=
  ⟨k.os.trans h.os, k.tape.trans h.tape, k.output.trans h.output, Nat.le_trans h.size k.size, fun i hi hn => (k.block i (Nat.lt_of_lt_of_le hi h.size) (fun e => by cases e; omega)).trans (h.block i hi hn)⟩
def waitO (D g n cap : Nat) (i : Nat) (w : World) : Prop := i ≠ 19 → w.cell? ⟨D, 0, none⟩ = some (.slice (some ⟨g, 0, none⟩) n cap)
theorem waitO_F {D g n cap : Nat} : ∀ j, j ∉ [19] → j ∉ ([] : List Nat) → ∀ w, waitO D g n cap j w → w.cell? ⟨D, 0, none⟩ = some (.slice (some ⟨g, 0, none⟩) n cap) := fun j h1 _ w h => h (by simpa using h1)
theorem drop_at {L : List Pr} (ha : L.Pairwise fun p q => p.pid < q.pid) {k : Nat} {p : Pr} (hp : L[k]? = some p) : dropP p.pid L = L.take k ++ L.drop (k + 1) := by
  have hk := (List.getElem?_eq_some_iff.1 hp).1
  have hd : L.drop k = p :: L.drop (k + 1) := by
    rw [List.drop_eq_getElem_cons hk]
    have := (List.getElem?_eq_some_iff.1 hp).2
    rw [this]
  have e : L = L.take k ++ p :: L.drop (k + 1) := by rw [← hd, List.take_append_drop]
  have h1 : ∀ q ∈ L.take k, q.pid ≠ p.pid := fun q hq => by
    obtain ⟨j, hj, e2⟩ := List.mem_take_iff_getElem.1 hq
    have hjl : j < L.length := by omega
    have hq2 : L[j]? = some q := by rw [List.getElem?_eq_getElem hjl, e2]
    exact asc_get ha hp hq2 (by omega)
  have h2 : ∀ q ∈ L.drop (k + 1), q.pid ≠ p.pid := fun q hq => by
    obtain ⟨j, hj, e2⟩ := List.mem_iff_getElem.1 hq
    rw [List.length_drop] at hj
    have hq2 : L[k + 1 + j]? = some q := by
      have : (L.drop (k + 1))[j]? = some q := by rw [List.getElem?_eq_getElem (by rw [List.length_drop]; exact hj), e2]
      rw [List.getElem?_drop] at this
      exact this
    exact asc_get ha hp hq2 (by omega)
  have := dropP_split (a := p.pid) (l := L.take k) (m := L.drop (k + 1)) (p := p) rfl h1 h2
  rw [← e] at this
  exact this
def wbRel (W : World) (L : List Pr) (a c : Int) (sv iv : Value) (wr : World) : Prop :=
  ∃ k : Nat, iv = .int .i64 k ∧ k ≤ L.length ∧ sv = .bool ((L.take k).any (kid a c)) ∧ (∀ q ∈ L.take k, gone a c q = false) ∧ Fr (fun _ => False) W wr
/-- a whole new row of processes. -/
theorem DR.sRow (h : DR W B D v u L last us) {v' : Value} {L' : List Pr} (h0 : W.ownsRow B 35 7 v' L'.length (rowsC L')) : DR (W.setCell ⟨D, 0, none⟩ v') B D v' u L' last us :=
  ⟨heap_set h.hb _ _, ownG_fr h0 (Fr.one _ _ _ _) (by
    rintro k hk rfl
    obtain ⟨_, _, c, f, hc⟩ := ownG_type h0 hk
    exact types_ne hc h.hb (by decide)), ownG_fr h.us (Fr.one _ _ _ _) h.uD, h.base⟩
set_option maxRecDepth 100000 in
set_option maxHeartbeats 8000000 in
theorem rwait_any (a c : Int) (h : DAt W B D R s) (hs : Sd s) (hb : s.last ≤ 1000000) :
    Calls Try.prog 27 #[.pointer (some ⟨D, 0, none⟩), .int .i64 a, .int .i64 c] W fun e w' => e = .returned (w3V (waitV s a c)) ∧ DDoes W B D R (waitT s a c) w' := by
  have hl : s.L.length ≤ 1000000 := by have := hs.len; omega
  have HT := Lib.hid h
  obtain ⟨v, u, h1, hR⟩ := h
  have hA := Lib.hid (rlive_any a h1 hl)
  cases hlv : liveP s.L a with
  | none =>
    rw [(wait_none hlv).1, (wait_none hlv).2]
    rw [lpos_none hlv] at hA
    clear h1 hlv hs
    go_enter Try.func27, Try.ntmps27
    go_wp2_with (go_at_call 35; refine hA.out.mono ?_; rintro e w' ⟨rfl, rfl⟩)
    go_ret3
    exact ⟨rfl, HT.out.does⟩
  | some p0 =>
    obtain ⟨k0, hk1, hk0, hx, hlt0⟩ := pos_live hlv
    rw [hk1] at hA
    have j3 : ¬ (k0 : Int) < 0 := by omega
    obtain ⟨g, cap, rfl, hg, hc⟩ := h1.form (by omega)
    have HW1 := Lib.hid fun p hf => wait_gone (s := s) (a := a) (c := c) (p := p) hlv hf
    have HW2 := Lib.hid fun hf => wait_not (s := s) (a := a) (c := c) hlv hf
    have HP := Lib.hid h1
    have HSD := Lib.hid hs
    obtain ⟨c0, -, -⟩ := h1.cell
    have hcm : cap ≤ 9223372036854775807 := by
      obtain ⟨_, _, e, _, hm⟩ := ownG_form h1.o
      cases e
      unfold maxLen at hm
      omega
    clear h1 hlv hs hk0 hk1 hlt0 hx
    go_enter Try.func27, Try.ntmps27
    go_wp2_with (go_at_call 35; refine hA.out.mono ?_; rintro e w' ⟨rfl, rfl⟩)
    go_loopw [10, 11] (fun sv iv wr => wbRel W s.L a c sv iv wr) (fun _ iv _ => s.L.length - (Lib.intOf iv).toNat)
    case atStart => exact ⟨0, rfl, Nat.zero_le _, rfl, by intro q hq; simp at hq, Fr.refl _ _⟩
    case round =>
      obtain ⟨k, rfl, hk, rfl, hno, hFr⟩ := hrel
      have HNO := Lib.hid hno
      have HFr := Lib.hid hFr
      have hPr := HP.out.fr hFr fun _ _ => id
      obtain ⟨c0, -, -⟩ := hPr.cell
      clear hno hFr
      generalize hev : (s.L.take k).any (kid a c) = ev
      have HEV := Lib.hid hev
      clear hev
      by_cases hlt : k < s.L.length
      · have hp : s.L[k]? = some (s.L[k]'hlt) := List.getElem?_eq_getElem _
        have hmem : s.L[k]'hlt ∈ s.L := List.getElem_mem _
        generalize s.L[k]'hlt = p at hp hmem
        obtain ⟨e0, e1, e2, e3, e4, e5, e6⟩ := hPr.cellP hp
        have i1 : (0 : Int) ≤ (k : Int) := by omega
        have i2 : (k : Int) < (s.L.length : Int) := by omega
        have HAN := Lib.hid (any_more (kid a c) hp)
        have HFA2 := Lib.hid ((HFr.out).alloc (.cells (prC p).toArray 35))
        have key := kid_cases a c p
        rcases key with ⟨hkd, t1⟩ | ⟨hkd, t1, t2⟩ | ⟨hkd, t1, t2, t3⟩ | ⟨hkd, t1, t2, t3⟩
        · have t1' : (p.parent != a) = true := by rw [bne, t1]; rfl
          have hg0 : gone a c p = false := by unfold gone; rw [hkd]; rfl
          have HT2 := Lib.hid (take_more HNO.out hp hg0)
          have HKD := Lib.hid hkd
          clear hp hkd hg0 hmem hPr
          go_wp2
          go_roundw
          case rel => exact ⟨k + 1, by go_num, by omega, by rw [← HEV.out, HAN.out, HKD.out, Bool.or_false], HT2.out, HFA2.out⟩
          case measure => simp [Lib.intOf]; omega
        · have t1' : (p.parent != a) = false := by rw [bne, t1]; rfl
          cases hd : p.dead
          · rw [hd] at e5
            have hpc : (prC p).toArray = #[.int .i64 p.pid, .int .i64 p.parent, .int .i64 p.user, .int .i64 p.session, .int .i64 p.status, .bool false, .bool p.reserve] := by unfold prC; rw [hd]
            rw [hpc] at HFA2
            have hg0 : gone a c p = false := by unfold gone; rw [hd, Bool.and_false]
            have HT2 := Lib.hid (take_more HNO.out hp hg0)
            have HKD := Lib.hid hkd
            clear hp hkd hg0 hmem hd hPr
            go_wp2
            go_roundw
            case rel => exact ⟨k + 1, by go_num, by omega, by rw [HAN.out, HKD.out, Bool.or_true], HT2.out, HFA2.out⟩
            case measure => simp [Lib.intOf]; omega
          · rw [hd] at e5
            have hg1 : gone a c p = true := by unfold gone; rw [hkd, hd]; rfl
            have HFI := Lib.hid (HW1.out p (find_at HNO.out hp hg1))
            have hpc : (prC p).toArray = #[.int .i64 p.pid, .int .i64 p.parent, .int .i64 p.user, .int .i64 p.session, .int .i64 p.status, .bool true, .bool p.reserve] := by unfold prC; rw [hd]
            obtain ⟨V, hV⟩ : ∃ V, V = wr.alloc (.cells (prC p).toArray 35) := ⟨_, rfl⟩
            have HDROP := Lib.hid (drop_at HSD.out.asc hp)
            have hfv : Fr (fun _ => False) wr V := hV ▸ (Fr.refl _ wr).alloc _
            have HFV := Lib.hid (HFr.out.trans hfv)
            have hPV := hPr.fr hfv fun _ _ => id
            have HDV2 := Lib.hid hPV
            have HD0 := Lib.hid hPV.cell.1
            have HDV := Lib.hid (heap_lt hPV.hb)
            have HZ0 := Lib.hid (hPV.frozen 0)
            have HBV := Lib.hid (Nat.le_trans hPV.base (Nat.le_of_lt (heap_lt hPV.hb)))
            have HB0 := Lib.hid (show V.cell? ⟨wr.heap.size, 0, none⟩ = some (.int .i64 p.pid) from hV ▸ lay_pr wr _ p 0 _ rfl)
            have HB4 := Lib.hid (show V.cell? ⟨wr.heap.size, 4, none⟩ = some (.int .i64 p.status) from hV ▸ lay_pr wr _ p 4 _ rfl)
            have HWV := Lib.hid (show W.heap.size ≤ V.heap.size from HFV.out.size)
            have hn1 := news_of (L := s.L) hPV.o 0 k (by omega)
            rw [List.drop_zero, Nat.zero_mul] at hn1
            have N1 := Lib.hid hn1
            have hn2 := news_of (L := s.L) hPV.o (k + 1) (s.L.length - (k + 1)) (by omega)
            rw [show (s.L.drop (k + 1)).take (s.L.length - (k + 1)) = s.L.drop (k + 1) from List.take_of_length_le (by rw [List.length_drop]; omega)] at hn2
            have N2 := Lib.hid hn2
            have HLEN := Lib.hid (show (s.L.take k ++ s.L.drop (k + 1)).length = k + (s.L.length - (k + 1)) by rw [List.length_append, List.length_take, List.length_drop]; omega)
            have u1 : (k : Int) ≤ (cap : Int) := by omega
            have u2 : (k : Int) + 1 ≤ (s.L.length : Int) := by omega
            have u3 : (0 : Int) ≤ (k : Int) + 1 := by omega
            have u4 : (s.L.length : Int) ≤ (cap : Int) := by omega
            have u5 : IntKind.i64.wrap ((k : Int) + 1) = (k : Int) + 1 := by rw [IntKind.wrap_i64]; omega
            have u6 : ((k : Int) + 1).toNat = k + 1 := by omega
            rw [hpc] at hV
            clear hPV hfv hg1 hkd hp hmem hd HNO HAN hpc HW1 HW2 HFA2 hn1 hn2
            by_cases hcap : cap = k + 1
            · have HNIL := Lib.hid (show s.L.drop (k + 1) = [] from List.drop_of_length_le (by omega))
              have HLEN := Lib.hid (show (s.L.take k ++ s.L.drop (k + 1)).length = k by rw [HLEN.out]; omega)
              subst hcap
              have v1 : (k : Int) ≤ (k : Int) + 1 := by omega
              have v2 : (s.L.length : Int) ≤ (k : Int) + 1 := by omega
              have v3 : s.L.length - (k + 1) = 0 := by omega
              go_wp2_with fail
              rw [← hV]
              clear hV
              refine regionU (waitO D g s.L.length (k + 1)) (by kernel_rfl) ?_
              refine takeU (fun w => w.cell? ⟨D, 0, none⟩ = some (.slice (some ⟨g, 0, none⟩) s.L.length (k + 1))) (oi := ?oi1) (v := ?v1) 0 [19] [] waitO_F (fun _ h _ => h) ?hi1 (by kernel_rfl) ?hQ1 ?hy1 HD0.out ?h1
              case hi1 => simp only [List.getElem?_toArray, List.getElem?_cons_succ, List.getElem?_cons_zero]; exact rfl
              case hQ1 => exact fun _ _ _ h => h
              case hy1 => (refine Or.inl ⟨by rfl, ?_⟩; intro w' hSw; (try dsimp only at hSw); go_simp; (try with_reducible rfl))
              simp only [Act.put, List.setIfInBounds_toArray, List.set_cons_zero, List.set_cons_succ]
              refine takeU (fun w => w.cell? ⟨D, 0, none⟩ = some (.slice (some ⟨g, 0, none⟩) s.L.length (k + 1))) (oi := ?oi2) (v := ?v2) 2 [19] [] waitO_F (fun _ h _ => h) ?hi2 (by kernel_rfl) ?hQ2 ?hy2 HD0.out ?h2
              case hi2 => simp only [List.getElem?_toArray, List.getElem?_cons_succ, List.getElem?_cons_zero]; exact rfl
              case hQ2 => exact fun _ _ _ h => h
              case hy2 => (refine Or.inl ⟨by rfl, ?_⟩; intro w' hSw; (try dsimp only at hSw); go_simp; (try with_reducible rfl))
              simp only [Act.put, List.setIfInBounds_toArray, List.set_cons_zero, List.set_cons_succ]
              refine takeU (fun w => w.cell? ⟨D, 0, none⟩ = some (.slice (some ⟨g, 0, none⟩) s.L.length (k + 1))) (oi := ?oi3) (v := ?v3) 3 [19] [] waitO_F (fun _ h _ => h) ?hi3 (by kernel_rfl) ?hQ3 ?hy3 HD0.out ?h3
              case hi3 => simp only [List.getElem?_toArray, List.getElem?_cons_succ, List.getElem?_cons_zero]; exact rfl
              case hQ3 => exact fun _ _ _ h => h
              case hy3 => (refine Or.inl ⟨by rfl, ?_⟩; intro w' hSw; (try dsimp only at hSw); go_simp; (try with_reducible rfl))
              simp only [Act.put, List.setIfInBounds_toArray, List.set_cons_zero, List.set_cons_succ]
              refine takeU (fun w => w.cell? ⟨D, 0, none⟩ = some (.slice (some ⟨g, 0, none⟩) s.L.length (k + 1))) (oi := ?oi4) (v := ?v4) 4 [19] [] waitO_F (fun _ h _ => h) ?hi4 (by kernel_rfl) ?hQ4 ?hy4 HD0.out ?h4
              case hi4 => simp only [List.getElem?_toArray, List.getElem?_cons_succ, List.getElem?_cons_zero]; exact rfl
              case hQ4 => exact fun _ _ _ h => h
              case hy4 => (refine Or.inl ⟨by rfl, ?_⟩; intro w' hSw; (try dsimp only at hSw); go_simp; (try with_reducible rfl))
              simp only [Act.put, List.setIfInBounds_toArray, List.set_cons_zero, List.set_cons_succ]
              refine takeU (fun w => w.cell? ⟨D, 0, none⟩ = some (.slice (some ⟨g, 0, none⟩) s.L.length (k + 1))) (oi := ?oi5) (v := ?v5) 5 [19] [] waitO_F (fun _ h _ => h) ?hi5 (by kernel_rfl) ?hQ5 ?hy5 HD0.out ?h5
              case hi5 => simp only [List.getElem?_toArray, List.getElem?_cons_succ, List.getElem?_cons_zero]; exact rfl
              case hQ5 => exact fun _ _ _ h => h
              case hy5 => (refine Or.inl ⟨by rfl, ?_⟩; intro w' hSw; (try dsimp only at hSw); go_simp; (try with_reducible rfl))
              simp only [Act.put, List.setIfInBounds_toArray, List.set_cons_zero, List.set_cons_succ]
              refine takeU (fun w => w.cell? ⟨D, 0, none⟩ = some (.slice (some ⟨g, 0, none⟩) s.L.length (k + 1))) (oi := ?oi6) (v := ?v6) 6 [19] [] waitO_F (fun _ h _ => h) ?hi6 (by kernel_rfl) ?hQ6 ?hy6 HD0.out ?h6
              case hi6 => simp only [List.getElem?_toArray, List.getElem?_cons_succ, List.getElem?_cons_zero]; exact rfl
              case hQ6 => exact fun _ _ _ h => h
              case hy6 => (refine Or.inl ⟨by rfl, ?_⟩; intro w' hSw; (try dsimp only at hSw); go_simp; (try with_reducible rfl))
              simp only [Act.put, List.setIfInBounds_toArray, List.set_cons_zero, List.set_cons_succ]
              refine takeU (fun w => w.cell? ⟨D, 0, none⟩ = some (.slice (some ⟨g, 0, none⟩) s.L.length (k + 1))) (oi := ?oi7) (v := ?v7) 7 [19] [] waitO_F (fun _ h _ => h) ?hi7 (by kernel_rfl) ?hQ7 ?hy7 HD0.out ?h7
              case hi7 => simp only [List.getElem?_toArray, List.getElem?_cons_succ, List.getElem?_cons_zero]; exact rfl
              case hQ7 => exact fun _ _ _ h => h
              case hy7 => (refine Or.inl ⟨by rfl, ?_⟩; intro w' hSw; (try dsimp only at hSw); go_simp; (try with_reducible rfl))
              simp only [Act.put, List.setIfInBounds_toArray, List.set_cons_zero, List.set_cons_succ]
              refine takeU (fun w => w.cell? ⟨D, 0, none⟩ = some (.slice (some ⟨g, 0, none⟩) s.L.length (k + 1))) (oi := ?oi8) (v := ?v8) 9 [19] [] waitO_F (fun _ h _ => h) ?hi8 (by kernel_rfl) ?hQ8 ?hy8 HD0.out ?h8
              case hi8 => simp only [List.getElem?_toArray, List.getElem?_cons_succ, List.getElem?_cons_zero]; exact rfl
              case hQ8 => exact fun _ _ _ h => h
              case hy8 => (refine Or.inl ⟨by rfl, ?_⟩; intro w' hSw; (try dsimp only at hSw); go_simp; (try with_reducible rfl))
              simp only [Act.put, List.setIfInBounds_toArray, List.set_cons_zero, List.set_cons_succ]
              refine takeU (fun w => w.cell? ⟨D, 0, none⟩ = some (.slice (some ⟨g, 0, none⟩) s.L.length (k + 1))) (oi := ?oi9) (v := ?v9) 10 [19] [] waitO_F (fun _ h _ => h) ?hi9 (by kernel_rfl) ?hQ9 ?hy9 HD0.out ?h9
              case hi9 => simp only [List.getElem?_toArray, List.getElem?_cons_succ, List.getElem?_cons_zero]; exact rfl
              case hQ9 => exact fun _ _ _ h => h
              case hy9 => (refine Or.inl ⟨by rfl, ?_⟩; intro w' hSw; (try dsimp only at hSw); go_simp; (try with_reducible rfl))
              simp only [Act.put, List.setIfInBounds_toArray, List.set_cons_zero, List.set_cons_succ]
              refine takeU (fun w => w.cell? ⟨D, 0, none⟩ = some (.slice (some ⟨g, 0, none⟩) s.L.length (k + 1))) (oi := ?oi10) (v := ?v10) 11 [19] [] waitO_F (fun _ h _ => h) ?hi10 (by kernel_rfl) ?hQ10 ?hy10 HD0.out ?h10
              case hi10 => simp only [List.getElem?_toArray, List.getElem?_cons_succ, List.getElem?_cons_zero]; exact rfl
              case hQ10 => exact fun _ _ _ h => h
              case hy10 => (refine Or.inl ⟨by rfl, ?_⟩; intro w' hSw; (try dsimp only at hSw); go_simp; (try with_reducible rfl))
              simp only [Act.put, List.setIfInBounds_toArray, List.set_cons_zero, List.set_cons_succ]
              refine takeU (fun w => w.cell? ⟨D, 0, none⟩ = some (.slice (some ⟨g, 0, none⟩) s.L.length (k + 1))) (oi := ?oi11) (v := ?v11) 12 [19] [] waitO_F (fun _ h _ => h) ?hi11 (by kernel_rfl) ?hQ11 ?hy11 HD0.out ?h11
              case hi11 => simp only [List.getElem?_toArray, List.getElem?_cons_succ, List.getElem?_cons_zero]; exact rfl
              case hQ11 => exact fun _ _ _ h => h
              case hy11 => (refine Or.inl ⟨by rfl, ?_⟩; intro w' hSw; (try dsimp only at hSw); go_simp; (try with_reducible rfl))
              simp only [Act.put, List.setIfInBounds_toArray, List.set_cons_zero, List.set_cons_succ]
              refine takeU (fun w => w.cell? ⟨D, 0, none⟩ = some (.slice (some ⟨g, 0, none⟩) s.L.length (k + 1))) (oi := ?oi12) (v := ?v12) 13 [19] [] waitO_F (fun _ h _ => h) ?hi12 (by kernel_rfl) ?hQ12 ?hy12 HD0.out ?h12
              case hi12 => simp only [List.getElem?_toArray, List.getElem?_cons_succ, List.getElem?_cons_zero]; exact rfl
              case hQ12 => exact fun _ _ _ h => h
              case hy12 => (refine Or.inl ⟨by rfl, ?_⟩; intro w' hSw; (try dsimp only at hSw); go_simp; (try with_reducible rfl))
              simp only [Act.put, List.setIfInBounds_toArray, List.set_cons_zero, List.set_cons_succ]
              refine takeU (fun w => w.cell? ⟨D, 0, none⟩ = some (.slice (some ⟨g, 0, none⟩) s.L.length (k + 1))) (oi := ?oi13) (v := ?v13) 14 [19] [] waitO_F (fun _ h _ => h) ?hi13 (by kernel_rfl) ?hQ13 ?hy13 HD0.out ?h13
              case hi13 => simp only [List.getElem?_toArray, List.getElem?_cons_succ, List.getElem?_cons_zero]; exact rfl
              case hQ13 => exact fun _ _ _ h => h
              case hy13 => (refine Or.inl ⟨by rfl, ?_⟩; intro w' hSw; (try dsimp only at hSw); go_simp; (try with_reducible rfl))
              simp only [Act.put, List.setIfInBounds_toArray, List.set_cons_zero, List.set_cons_succ]
              refine takeU (fun w => w.cell? ⟨D, 0, none⟩ = some (.slice (some ⟨g, 0, none⟩) s.L.length (k + 1))) (oi := ?oi14) (v := ?v14) 15 [19] [] waitO_F (fun _ h _ => h) ?hi14 (by kernel_rfl) ?hQ14 ?hy14 HD0.out ?h14
              case hi14 => simp only [List.getElem?_toArray, List.getElem?_cons_succ, List.getElem?_cons_zero]; exact rfl
              case hQ14 => exact fun _ _ _ h => h
              case hy14 => (refine Or.inl ⟨by rfl, ?_⟩; intro w' hSw; (try dsimp only at hSw); go_simp; (try with_reducible rfl))
              simp only [Act.put, List.setIfInBounds_toArray, List.set_cons_zero, List.set_cons_succ]
              refine readyU [1] (by kernel_rfl) (by simp) ?_
              refine EachU.cons (o := ?o15) ?ho15 (fun K hK => ?_) ?_
              case ho15 => simp only [List.getElem?_toArray, List.getElem?_cons_succ, List.getElem?_cons_zero]; exact rfl
              rotate_left
              · exact EachU.nil
              go_simp
              refine hK.out _ _ (fun _ => (((Fr.refl (fun _ => False) V).alloc (.cells #[] 35)).drew).cell HD0.out id) (fun _ => ?_)
              clear hK K
              (try simp only [Act.put, List.setIfInBounds_toArray, List.set_cons_zero, List.set_cons_succ])
              refine readyU [8] (by kernel_rfl) (by simp) ?_
              refine EachU.cons (o := ?o16) ?ho16 (fun K hK => ?_) ?_
              case ho16 => simp only [List.getElem?_toArray, List.getElem?_cons_succ, List.getElem?_cons_zero]; exact rfl
              rotate_left
              · exact EachU.nil
              refine step_append_any (by rfl) _ _ (by rfl) (by rfl) V.heap.size V.heap.size 0 0 [] (by simp [Act.eval, Act.put]) ((World.ownsRow_made V #[] 0 (Nat.le_refl _) (by decide) rfl).drew) (some ⟨g, 0, none⟩) k (k + 1) (by simp [Act.eval, Act.put]) (rowsC (s.L.take k)) ((N1.out.fr ((Fr.refl (fun _ => False) V).alloc _).drew fun _ _ _ => id)) (by decide) (by omega) (by simp) ?_
              intro g3 cap3 w3 hown3 hgrow3 hat3 hlt3
              simp only [Nat.zero_add, List.nil_append] at hown3 ⊢
              have hF3 : Fr (fun _ => False) V w3 := ((Fr.refl (fun _ => False) V).alloc _).drew.into hgrow3 (Nat.le_refl _)
              have hb3 := (hown3.lt g3 rfl).1
              refine hK.out _ _ (fun _ => hF3.cell HD0.out id) (fun _ => ?_)
              clear hK K
              (try simp only [Act.put, List.setIfInBounds_toArray, List.set_cons_zero, List.set_cons_succ])
              refine readyU [16] (by kernel_rfl) (by simp) ?_
              refine EachU.cons (o := ?o17) ?ho17 (fun K hK => ?_) ?_
              case ho17 => simp only [List.getElem?_toArray, List.getElem?_cons_succ, List.getElem?_cons_zero]; exact rfl
              rotate_left
              · exact EachU.nil
              refine step_append_any (by rfl) _ _ (by rfl) (by rfl) V.heap.size g3 k cap3 (rowsC (s.L.take k)) (by simp [Act.eval, Act.put]) hown3 (some ⟨g, 0, none⟩) 0 0 (by simp [Act.eval, Act.put]) [] ⟨rfl, (fun _ h => by cases h), fun h0 => absurd h0 (Nat.lt_irrefl 0)⟩ (by omega) (by omega) hF3.size ?_
              intro g5 cap5 w5 hown5 hgrow5 hat5 hlt5
              have hF5 : Fr (fun _ => False) V w5 := hF3.into hgrow5 hb3
              have hz5 : w5.frozen? ⟨D, 0, none⟩ = false := (World.frozen?_of_block (a := ⟨D, 0, none⟩) (hF5.block D HDV.out id)).trans HZ0.out
              have hc5 : w5.cell? ⟨D, 0, none⟩ = some (.slice (some ⟨g, 0, none⟩) s.L.length (k + 1)) := hF5.cell HD0.out id
              refine hK.out _ _ (fun _ => hc5) (fun _ => ?_)
              clear hK K
              (try simp only [Act.put, List.setIfInBounds_toArray, List.set_cons_zero, List.set_cons_succ])
              refine readyU [17] (by kernel_rfl) (by simp) ?_
              refine EachU.cons (o := ?o18) ?ho18 (fun K hK => ?_) ?_
              case ho18 => simp only [List.getElem?_toArray, List.getElem?_cons_succ, List.getElem?_cons_zero]; exact rfl
              rotate_left
              · exact EachU.nil
              go_simp
              refine hK.out _ _ (fun _ => hc5) (fun _ => ?_)
              clear hK K
              (try simp only [Act.put, List.setIfInBounds_toArray, List.set_cons_zero, List.set_cons_succ])
              refine readyU [18] (by kernel_rfl) (by simp) ?_
              refine EachU.cons (o := ?o19) ?ho19 (fun K hK => ?_) ?_
              case ho19 => simp only [List.getElem?_toArray, List.getElem?_cons_succ, List.getElem?_cons_zero]; exact rfl
              rotate_left
              · exact EachU.nil
              go_simp
              refine hK.out _ _ (fun _ => hc5) (fun _ => ?_)
              clear hK K
              (try simp only [Act.put, List.setIfInBounds_toArray, List.set_cons_zero, List.set_cons_succ])
              refine readyU [19] (by kernel_rfl) (by simp) ?_
              refine EachU.cons (o := ?o20) ?ho20 (fun K hK => ?_) ?_
              case ho20 => simp only [List.getElem?_toArray, List.getElem?_cons_succ, List.getElem?_cons_zero]; exact rfl
              rotate_left
              · exact EachU.nil
              go_simp
              refine hK.out _ _ (fun h => absurd rfl h) (fun _ => ?_)
              clear hK K
              (try simp only [Act.put, List.setIfInBounds_toArray, List.set_cons_zero, List.set_cons_succ])
              refine doneU (by kernel_rfl) ?_ _
              rw [Nat.add_zero, List.append_nil] at hown5
              have hRow : w5.ownsRow B 35 7 (.slice (some ⟨g5, 0, none⟩) k cap5) (dropP p.pid s.L).length (rowsC (dropP p.pid s.L)) := by
                have hbb := HBV.out
                have e1 := HDROP.out
                have e2 := HLEN.out
                rw [e1]
                rw [e2]
                skip
                rw [HNIL.out, List.append_nil]
                refine ⟨hown5.1, ?_⟩
                rcases hown5.2 with q | ⟨g', cap', cur, q1, q2, q3⟩
                · exact .inl q
                · exact .inr ⟨g', cap', cur, q1, Nat.le_trans hbb q2, q3⟩
              have HD6 := Lib.hid ((HDV2.out.fr hF5 fun _ _ => id))
              have hg5 : V.heap.size ≤ g5 := (hown5.lt g5 rfl).1
              have K6 := Lib.hid (DR.sRow HD6.out hRow)
              have HF6 : Fr (Bd D (.slice (some ⟨g, 0, none⟩) s.L.length (k + 1)) u) W (w5.setCell ⟨D, 0, none⟩ (.slice (some ⟨g5, 0, none⟩) k cap5)) := ((HFV.out.trans hF5).mono fun _ _ h => h.elim).setCell (p := ⟨D, 0, none⟩) (.inl (.inl rfl)) _
              have HF6 := Lib.hid HF6
              have hDn : D ≠ wr.heap.size := fun e => by have := heap_lt hPr.hb; omega
              have m0 : (w5.setCell ⟨D, 0, none⟩ (.slice (some ⟨g5, 0, none⟩) k cap5)).cell? ⟨wr.heap.size, 0, none⟩ = some (.int .i64 p.pid) := (World.cell?_of_block (Below.heap_setCell _ _ _ _ (Ne.symm hDn))).trans (hF5.cell HB0.out id)
              have m4 : (w5.setCell ⟨D, 0, none⟩ (.slice (some ⟨g5, 0, none⟩) k cap5)).cell? ⟨wr.heap.size, 4, none⟩ = some (.int .i64 p.status) := (World.cell?_of_block (Below.heap_setCell _ _ _ _ (Ne.symm hDn))).trans (hF5.cell HB4.out id)
              have hWV := HWV.out
              clear hown5 hown3 hgrow5 hgrow3 hRow hF5 hF3 hc5 hz5 hPr e0 e1 e2 e3 e4 e5 e6
              generalize w5.setCell ⟨D, 0, none⟩ (.slice (some ⟨g5, 0, none⟩) k cap5) = w6 at *
              go_wp2_with fail
              go_quiet (fail)
              go_wp2
              go_ret3
              rw [HFI.out.1, HFI.out.2]
              refine ⟨rfl, _, ⟨_, _, K6.out.fr (S := fun _ => False) ((Fr.refl _ _).drewN _) fun _ _ => id, rfl⟩, ?_⟩
              rw [hR]
              refine ⟨HF6.out.drewN _, ?_⟩
              rintro j (hj | hj | hj)
              · exact .inl (.inl hj)
              · cases hj; exact .inr (Nat.le_trans hWV hg5)
              · exact .inl (.inr (.inr hj))
            · go_wp2_with fail
              rw [← hV]
              clear hV
              refine regionU (waitO D g s.L.length cap) (by kernel_rfl) ?_
              refine takeU (fun w => w.cell? ⟨D, 0, none⟩ = some (.slice (some ⟨g, 0, none⟩) s.L.length cap)) (oi := ?oi101) (v := ?v101) 0 [19] [] waitO_F (fun _ h _ => h) ?hi101 (by kernel_rfl) ?hQ101 ?hy101 HD0.out ?h101
              case hi101 => simp only [List.getElem?_toArray, List.getElem?_cons_succ, List.getElem?_cons_zero]; exact rfl
              case hQ101 => exact fun _ _ _ h => h
              case hy101 => (refine Or.inl ⟨by rfl, ?_⟩; intro w' hSw; (try dsimp only at hSw); go_simp; (try with_reducible rfl))
              simp only [Act.put, List.setIfInBounds_toArray, List.set_cons_zero, List.set_cons_succ]
              refine takeU (fun w => w.cell? ⟨D, 0, none⟩ = some (.slice (some ⟨g, 0, none⟩) s.L.length cap)) (oi := ?oi102) (v := ?v102) 2 [19] [] waitO_F (fun _ h _ => h) ?hi102 (by kernel_rfl) ?hQ102 ?hy102 HD0.out ?h102
              case hi102 => simp only [List.getElem?_toArray, List.getElem?_cons_succ, List.getElem?_cons_zero]; exact rfl
              case hQ102 => exact fun _ _ _ h => h
              case hy102 => (refine Or.inl ⟨by rfl, ?_⟩; intro w' hSw; (try dsimp only at hSw); go_simp; (try with_reducible rfl))
              simp only [Act.put, List.setIfInBounds_toArray, List.set_cons_zero, List.set_cons_succ]
              refine takeU (fun w => w.cell? ⟨D, 0, none⟩ = some (.slice (some ⟨g, 0, none⟩) s.L.length cap)) (oi := ?oi103) (v := ?v103) 3 [19] [] waitO_F (fun _ h _ => h) ?hi103 (by kernel_rfl) ?hQ103 ?hy103 HD0.out ?h103
              case hi103 => simp only [List.getElem?_toArray, List.getElem?_cons_succ, List.getElem?_cons_zero]; exact rfl
              case hQ103 => exact fun _ _ _ h => h
              case hy103 => (refine Or.inl ⟨by rfl, ?_⟩; intro w' hSw; (try dsimp only at hSw); go_simp; (try with_reducible rfl))
              simp only [Act.put, List.setIfInBounds_toArray, List.set_cons_zero, List.set_cons_succ]
              refine takeU (fun w => w.cell? ⟨D, 0, none⟩ = some (.slice (some ⟨g, 0, none⟩) s.L.length cap)) (oi := ?oi104) (v := ?v104) 4 [19] [] waitO_F (fun _ h _ => h) ?hi104 (by kernel_rfl) ?hQ104 ?hy104 HD0.out ?h104
              case hi104 => simp only [List.getElem?_toArray, List.getElem?_cons_succ, List.getElem?_cons_zero]; exact rfl
              case hQ104 => exact fun _ _ _ h => h
              case hy104 => (refine Or.inl ⟨by rfl, ?_⟩; intro w' hSw; (try dsimp only at hSw); go_simp; (try with_reducible rfl))
              simp only [Act.put, List.setIfInBounds_toArray, List.set_cons_zero, List.set_cons_succ]
              refine takeU (fun w => w.cell? ⟨D, 0, none⟩ = some (.slice (some ⟨g, 0, none⟩) s.L.length cap)) (oi := ?oi105) (v := ?v105) 5 [19] [] waitO_F (fun _ h _ => h) ?hi105 (by kernel_rfl) ?hQ105 ?hy105 HD0.out ?h105
              case hi105 => simp only [List.getElem?_toArray, List.getElem?_cons_succ, List.getElem?_cons_zero]; exact rfl
              case hQ105 => exact fun _ _ _ h => h
              case hy105 => (refine Or.inl ⟨by rfl, ?_⟩; intro w' hSw; (try dsimp only at hSw); go_simp; (try with_reducible rfl))
              simp only [Act.put, List.setIfInBounds_toArray, List.set_cons_zero, List.set_cons_succ]
              refine takeU (fun w => w.cell? ⟨D, 0, none⟩ = some (.slice (some ⟨g, 0, none⟩) s.L.length cap)) (oi := ?oi106) (v := ?v106) 6 [19] [] waitO_F (fun _ h _ => h) ?hi106 (by kernel_rfl) ?hQ106 ?hy106 HD0.out ?h106
              case hi106 => simp only [List.getElem?_toArray, List.getElem?_cons_succ, List.getElem?_cons_zero]; exact rfl
              case hQ106 => exact fun _ _ _ h => h
              case hy106 => (refine Or.inl ⟨by rfl, ?_⟩; intro w' hSw; (try dsimp only at hSw); go_simp; (try with_reducible rfl))
              simp only [Act.put, List.setIfInBounds_toArray, List.set_cons_zero, List.set_cons_succ]
              refine takeU (fun w => w.cell? ⟨D, 0, none⟩ = some (.slice (some ⟨g, 0, none⟩) s.L.length cap)) (oi := ?oi107) (v := ?v107) 7 [19] [] waitO_F (fun _ h _ => h) ?hi107 (by kernel_rfl) ?hQ107 ?hy107 HD0.out ?h107
              case hi107 => simp only [List.getElem?_toArray, List.getElem?_cons_succ, List.getElem?_cons_zero]; exact rfl
              case hQ107 => exact fun _ _ _ h => h
              case hy107 => (refine Or.inl ⟨by rfl, ?_⟩; intro w' hSw; (try dsimp only at hSw); go_simp; (try with_reducible rfl))
              simp only [Act.put, List.setIfInBounds_toArray, List.set_cons_zero, List.set_cons_succ]
              refine takeU (fun w => w.cell? ⟨D, 0, none⟩ = some (.slice (some ⟨g, 0, none⟩) s.L.length cap)) (oi := ?oi108) (v := ?v108) 9 [19] [] waitO_F (fun _ h _ => h) ?hi108 (by kernel_rfl) ?hQ108 ?hy108 HD0.out ?h108
              case hi108 => simp only [List.getElem?_toArray, List.getElem?_cons_succ, List.getElem?_cons_zero]; exact rfl
              case hQ108 => exact fun _ _ _ h => h
              case hy108 => (refine Or.inl ⟨by rfl, ?_⟩; intro w' hSw; (try dsimp only at hSw); go_simp; (try with_reducible rfl))
              simp only [Act.put, List.setIfInBounds_toArray, List.set_cons_zero, List.set_cons_succ]
              refine takeU (fun w => w.cell? ⟨D, 0, none⟩ = some (.slice (some ⟨g, 0, none⟩) s.L.length cap)) (oi := ?oi109) (v := ?v109) 10 [19] [] waitO_F (fun _ h _ => h) ?hi109 (by kernel_rfl) ?hQ109 ?hy109 HD0.out ?h109
              case hi109 => simp only [List.getElem?_toArray, List.getElem?_cons_succ, List.getElem?_cons_zero]; exact rfl
              case hQ109 => exact fun _ _ _ h => h
              case hy109 => (refine Or.inl ⟨by rfl, ?_⟩; intro w' hSw; (try dsimp only at hSw); go_simp; (try with_reducible rfl))
              simp only [Act.put, List.setIfInBounds_toArray, List.set_cons_zero, List.set_cons_succ]
              refine takeU (fun w => w.cell? ⟨D, 0, none⟩ = some (.slice (some ⟨g, 0, none⟩) s.L.length cap)) (oi := ?oi110) (v := ?v110) 11 [19] [] waitO_F (fun _ h _ => h) ?hi110 (by kernel_rfl) ?hQ110 ?hy110 HD0.out ?h110
              case hi110 => simp only [List.getElem?_toArray, List.getElem?_cons_succ, List.getElem?_cons_zero]; exact rfl
              case hQ110 => exact fun _ _ _ h => h
              case hy110 => (refine Or.inl ⟨by rfl, ?_⟩; intro w' hSw; (try dsimp only at hSw); go_simp; (try with_reducible rfl))
              simp only [Act.put, List.setIfInBounds_toArray, List.set_cons_zero, List.set_cons_succ]
              refine takeU (fun w => w.cell? ⟨D, 0, none⟩ = some (.slice (some ⟨g, 0, none⟩) s.L.length cap)) (oi := ?oi111) (v := ?v111) 12 [19] [] waitO_F (fun _ h _ => h) ?hi111 (by kernel_rfl) ?hQ111 ?hy111 HD0.out ?h111
              case hi111 => simp only [List.getElem?_toArray, List.getElem?_cons_succ, List.getElem?_cons_zero]; exact rfl
              case hQ111 => exact fun _ _ _ h => h
              case hy111 => (refine Or.inl ⟨by rfl, ?_⟩; intro w' hSw; (try dsimp only at hSw); go_simp; (try with_reducible rfl))
              simp only [Act.put, List.setIfInBounds_toArray, List.set_cons_zero, List.set_cons_succ]
              refine takeU (fun w => w.cell? ⟨D, 0, none⟩ = some (.slice (some ⟨g, 0, none⟩) s.L.length cap)) (oi := ?oi112) (v := ?v112) 13 [19] [] waitO_F (fun _ h _ => h) ?hi112 (by kernel_rfl) ?hQ112 ?hy112 HD0.out ?h112
              case hi112 => simp only [List.getElem?_toArray, List.getElem?_cons_succ, List.getElem?_cons_zero]; exact rfl
              case hQ112 => exact fun _ _ _ h => h
              case hy112 => (refine Or.inl ⟨by rfl, ?_⟩; intro w' hSw; (try dsimp only at hSw); go_simp; (try with_reducible rfl))
              simp only [Act.put, List.setIfInBounds_toArray, List.set_cons_zero, List.set_cons_succ]
              refine takeU (fun w => w.cell? ⟨D, 0, none⟩ = some (.slice (some ⟨g, 0, none⟩) s.L.length cap)) (oi := ?oi113) (v := ?v113) 14 [19] [] waitO_F (fun _ h _ => h) ?hi113 (by kernel_rfl) ?hQ113 ?hy113 HD0.out ?h113
              case hi113 => simp only [List.getElem?_toArray, List.getElem?_cons_succ, List.getElem?_cons_zero]; exact rfl
              case hQ113 => exact fun _ _ _ h => h
              case hy113 => (refine Or.inl ⟨by rfl, ?_⟩; intro w' hSw; (try dsimp only at hSw); go_simp; (try with_reducible rfl))
              simp only [Act.put, List.setIfInBounds_toArray, List.set_cons_zero, List.set_cons_succ]
              refine takeU (fun w => w.cell? ⟨D, 0, none⟩ = some (.slice (some ⟨g, 0, none⟩) s.L.length cap)) (oi := ?oi114) (v := ?v114) 15 [19] [] waitO_F (fun _ h _ => h) ?hi114 (by kernel_rfl) ?hQ114 ?hy114 HD0.out ?h114
              case hi114 => simp only [List.getElem?_toArray, List.getElem?_cons_succ, List.getElem?_cons_zero]; exact rfl
              case hQ114 => exact fun _ _ _ h => h
              case hy114 => (refine Or.inl ⟨by rfl, ?_⟩; intro w' hSw; (try dsimp only at hSw); go_simp; (try with_reducible rfl))
              simp only [Act.put, List.setIfInBounds_toArray, List.set_cons_zero, List.set_cons_succ]
              refine readyU [1] (by kernel_rfl) (by simp) ?_
              refine EachU.cons (o := ?o115) ?ho115 (fun K hK => ?_) ?_
              case ho115 => simp only [List.getElem?_toArray, List.getElem?_cons_succ, List.getElem?_cons_zero]; exact rfl
              rotate_left
              · exact EachU.nil
              go_simp
              refine hK.out _ _ (fun _ => (((Fr.refl (fun _ => False) V).alloc (.cells #[] 35)).drew).cell HD0.out id) (fun _ => ?_)
              clear hK K
              (try simp only [Act.put, List.setIfInBounds_toArray, List.set_cons_zero, List.set_cons_succ])
              refine readyU [8] (by kernel_rfl) (by simp) ?_
              refine EachU.cons (o := ?o116) ?ho116 (fun K hK => ?_) ?_
              case ho116 => simp only [List.getElem?_toArray, List.getElem?_cons_succ, List.getElem?_cons_zero]; exact rfl
              rotate_left
              · exact EachU.nil
              refine step_append_any (by rfl) _ _ (by rfl) (by rfl) V.heap.size V.heap.size 0 0 [] (by simp [Act.eval, Act.put]) ((World.ownsRow_made V #[] 0 (Nat.le_refl _) (by decide) rfl).drew) (some ⟨g, 0, none⟩) k cap (by simp [Act.eval, Act.put]) (rowsC (s.L.take k)) ((N1.out.fr ((Fr.refl (fun _ => False) V).alloc _).drew fun _ _ _ => id)) (by decide) (by omega) (by simp) ?_
              intro g3 cap3 w3 hown3 hgrow3 hat3 hlt3
              simp only [Nat.zero_add, List.nil_append] at hown3 ⊢
              have hF3 : Fr (fun _ => False) V w3 := ((Fr.refl (fun _ => False) V).alloc _).drew.into hgrow3 (Nat.le_refl _)
              have hb3 := (hown3.lt g3 rfl).1
              refine hK.out _ _ (fun _ => hF3.cell HD0.out id) (fun _ => ?_)
              clear hK K
              (try simp only [Act.put, List.setIfInBounds_toArray, List.set_cons_zero, List.set_cons_succ])
              refine readyU [16] (by kernel_rfl) (by simp) ?_
              refine EachU.cons (o := ?o117) ?ho117 (fun K hK => ?_) ?_
              case ho117 => simp only [List.getElem?_toArray, List.getElem?_cons_succ, List.getElem?_cons_zero]; exact rfl
              rotate_left
              · exact EachU.nil
              refine step_append_any (by rfl) _ _ (by rfl) (by rfl) V.heap.size g3 k cap3 (rowsC (s.L.take k)) (by simp [Act.eval, Act.put]) hown3 (some ⟨g, (k + 1) * 7, none⟩) (s.L.length - (k + 1)) (cap - (k + 1)) (by simp [Act.eval, Act.put]) (rowsC (s.L.drop (k + 1))) (N2.out.fr hF3 fun _ _ _ => id) (by omega) (by omega) hF3.size ?_
              intro g5 cap5 w5 hown5 hgrow5 hat5 hlt5
              have hF5 : Fr (fun _ => False) V w5 := hF3.into hgrow5 hb3
              have hz5 : w5.frozen? ⟨D, 0, none⟩ = false := (World.frozen?_of_block (a := ⟨D, 0, none⟩) (hF5.block D HDV.out id)).trans HZ0.out
              have hc5 : w5.cell? ⟨D, 0, none⟩ = some (.slice (some ⟨g, 0, none⟩) s.L.length cap) := hF5.cell HD0.out id
              refine hK.out _ _ (fun _ => hc5) (fun _ => ?_)
              clear hK K
              (try simp only [Act.put, List.setIfInBounds_toArray, List.set_cons_zero, List.set_cons_succ])
              refine readyU [17] (by kernel_rfl) (by simp) ?_
              refine EachU.cons (o := ?o118) ?ho118 (fun K hK => ?_) ?_
              case ho118 => simp only [List.getElem?_toArray, List.getElem?_cons_succ, List.getElem?_cons_zero]; exact rfl
              rotate_left
              · exact EachU.nil
              go_simp
              refine hK.out _ _ (fun _ => hc5) (fun _ => ?_)
              clear hK K
              (try simp only [Act.put, List.setIfInBounds_toArray, List.set_cons_zero, List.set_cons_succ])
              refine readyU [18] (by kernel_rfl) (by simp) ?_
              refine EachU.cons (o := ?o119) ?ho119 (fun K hK => ?_) ?_
              case ho119 => simp only [List.getElem?_toArray, List.getElem?_cons_succ, List.getElem?_cons_zero]; exact rfl
              rotate_left
              · exact EachU.nil
              go_simp
              refine hK.out _ _ (fun _ => hc5) (fun _ => ?_)
              clear hK K
              (try simp only [Act.put, List.setIfInBounds_toArray, List.set_cons_zero, List.set_cons_succ])
              refine readyU [19] (by kernel_rfl) (by simp) ?_
              refine EachU.cons (o := ?o120) ?ho120 (fun K hK => ?_) ?_
              case ho120 => simp only [List.getElem?_toArray, List.getElem?_cons_succ, List.getElem?_cons_zero]; exact rfl
              rotate_left
              · exact EachU.nil
              go_simp
              refine hK.out _ _ (fun h => absurd rfl h) (fun _ => ?_)
              clear hK K
              (try simp only [Act.put, List.setIfInBounds_toArray, List.set_cons_zero, List.set_cons_succ])
              refine doneU (by kernel_rfl) ?_ _
              rw [← rowsC_app, ← HLEN.out] at hown5
              skip
              have hRow : w5.ownsRow B 35 7 (.slice (some ⟨g5, 0, none⟩) (k + (s.L.length - (k + 1))) cap5) (dropP p.pid s.L).length (rowsC (dropP p.pid s.L)) := by
                have hbb := HBV.out
                have e1 := HDROP.out
                have e2 := HLEN.out
                rw [e1]
                rw [e2]
                rw [e2] at hown5
      
                refine ⟨hown5.1, ?_⟩
                rcases hown5.2 with q | ⟨g', cap', cur, q1, q2, q3⟩
                · exact .inl q
                · exact .inr ⟨g', cap', cur, q1, Nat.le_trans hbb q2, q3⟩
              have HD6 := Lib.hid ((HDV2.out.fr hF5 fun _ _ => id))
              have hg5 : V.heap.size ≤ g5 := (hown5.lt g5 rfl).1
              have K6 := Lib.hid (DR.sRow HD6.out hRow)
              have HF6 : Fr (Bd D (.slice (some ⟨g, 0, none⟩) s.L.length cap) u) W (w5.setCell ⟨D, 0, none⟩ (.slice (some ⟨g5, 0, none⟩) (k + (s.L.length - (k + 1))) cap5)) := ((HFV.out.trans hF5).mono fun _ _ h => h.elim).setCell (p := ⟨D, 0, none⟩) (.inl (.inl rfl)) _
              have HF6 := Lib.hid HF6
              have hDn : D ≠ wr.heap.size := fun e => by have := heap_lt hPr.hb; omega
              have m0 : (w5.setCell ⟨D, 0, none⟩ (.slice (some ⟨g5, 0, none⟩) (k + (s.L.length - (k + 1))) cap5)).cell? ⟨wr.heap.size, 0, none⟩ = some (.int .i64 p.pid) := (World.cell?_of_block (Below.heap_setCell _ _ _ _ (Ne.symm hDn))).trans (hF5.cell HB0.out id)
              have m4 : (w5.setCell ⟨D, 0, none⟩ (.slice (some ⟨g5, 0, none⟩) (k + (s.L.length - (k + 1))) cap5)).cell? ⟨wr.heap.size, 4, none⟩ = some (.int .i64 p.status) := (World.cell?_of_block (Below.heap_setCell _ _ _ _ (Ne.symm hDn))).trans (hF5.cell HB4.out id)
              have hWV := HWV.out
              clear hown5 hown3 hgrow5 hgrow3 hRow hF5 hF3 hc5 hz5 hPr e0 e1 e2 e3 e4 e5 e6
              generalize w5.setCell ⟨D, 0, none⟩ (.slice (some ⟨g5, 0, none⟩) (k + (s.L.length - (k + 1))) cap5) = w6 at *
              go_wp2_with fail
              go_quiet (fail)
              go_wp2
              go_ret3
              rw [HFI.out.1, HFI.out.2]
              refine ⟨rfl, _, ⟨_, _, K6.out.fr (S := fun _ => False) ((Fr.refl _ _).drewN _) fun _ _ => id, rfl⟩, ?_⟩
              rw [hR]
              refine ⟨HF6.out.drewN _, ?_⟩
              rintro j (hj | hj | hj)
              · exact .inl (.inl hj)
              · cases hj; exact .inr (Nat.le_trans hWV hg5)
              · exact .inl (.inr (.inr hj))
        · have t1' : (p.parent != a) = false := by rw [bne, t1]; rfl
          have t3' : (p.pid != c) = true := by rw [bne, t3]; rfl
          have hg0 : gone a c p = false := by unfold gone; rw [hkd]; rfl
          have HT2 := Lib.hid (take_more HNO.out hp hg0)
          have HKD := Lib.hid hkd
          clear hp hkd hg0 hmem hPr
          go_wp2
          go_roundw
          case rel => exact ⟨k + 1, by go_num, by omega, by rw [← HEV.out, HAN.out, HKD.out, Bool.or_false], HT2.out, HFA2.out⟩
          case measure => simp [Lib.intOf]; omega
        · have t1' : (p.parent != a) = false := by rw [bne, t1]; rfl
          have t3' : (p.pid != c) = false := by rw [bne, t3]; rfl
          cases hd : p.dead
          · rw [hd] at e5
            have hpc : (prC p).toArray = #[.int .i64 p.pid, .int .i64 p.parent, .int .i64 p.user, .int .i64 p.session, .int .i64 p.status, .bool false, .bool p.reserve] := by unfold prC; rw [hd]
            rw [hpc] at HFA2
            have hg0 : gone a c p = false := by unfold gone; rw [hd, Bool.and_false]
            have HT2 := Lib.hid (take_more HNO.out hp hg0)
            have HKD := Lib.hid hkd
            clear hp hkd hg0 hmem hd hPr
            go_wp2
            go_roundw
            case rel => exact ⟨k + 1, by go_num, by omega, by rw [HAN.out, HKD.out, Bool.or_true], HT2.out, HFA2.out⟩
            case measure => simp [Lib.intOf]; omega
          · rw [hd] at e5
            have hg1 : gone a c p = true := by unfold gone; rw [hkd, hd]; rfl
            have HFI := Lib.hid (HW1.out p (find_at HNO.out hp hg1))
            have hpc : (prC p).toArray = #[.int .i64 p.pid, .int .i64 p.parent, .int .i64 p.user, .int .i64 p.session, .int .i64 p.status, .bool true, .bool p.reserve] := by unfold prC; rw [hd]
            obtain ⟨V, hV⟩ : ∃ V, V = wr.alloc (.cells (prC p).toArray 35) := ⟨_, rfl⟩
            have HDROP := Lib.hid (drop_at HSD.out.asc hp)
            have hfv : Fr (fun _ => False) wr V := hV ▸ (Fr.refl _ wr).alloc _
            have HFV := Lib.hid (HFr.out.trans hfv)
            have hPV := hPr.fr hfv fun _ _ => id
            have HDV2 := Lib.hid hPV
            have HD0 := Lib.hid hPV.cell.1
            have HDV := Lib.hid (heap_lt hPV.hb)
            have HZ0 := Lib.hid (hPV.frozen 0)
            have HBV := Lib.hid (Nat.le_trans hPV.base (Nat.le_of_lt (heap_lt hPV.hb)))
            have HB0 := Lib.hid (show V.cell? ⟨wr.heap.size, 0, none⟩ = some (.int .i64 p.pid) from hV ▸ lay_pr wr _ p 0 _ rfl)
            have HB4 := Lib.hid (show V.cell? ⟨wr.heap.size, 4, none⟩ = some (.int .i64 p.status) from hV ▸ lay_pr wr _ p 4 _ rfl)
            have HWV := Lib.hid (show W.heap.size ≤ V.heap.size from HFV.out.size)
            have hn1 := news_of (L := s.L) hPV.o 0 k (by omega)
            rw [List.drop_zero, Nat.zero_mul] at hn1
            have N1 := Lib.hid hn1
            have hn2 := news_of (L := s.L) hPV.o (k + 1) (s.L.length - (k + 1)) (by omega)
            rw [show (s.L.drop (k + 1)).take (s.L.length - (k + 1)) = s.L.drop (k + 1) from List.take_of_length_le (by rw [List.length_drop]; omega)] at hn2
            have N2 := Lib.hid hn2
            have HLEN := Lib.hid (show (s.L.take k ++ s.L.drop (k + 1)).length = k + (s.L.length - (k + 1)) by rw [List.length_append, List.length_take, List.length_drop]; omega)
            have u1 : (k : Int) ≤ (cap : Int) := by omega
            have u2 : (k : Int) + 1 ≤ (s.L.length : Int) := by omega
            have u3 : (0 : Int) ≤ (k : Int) + 1 := by omega
            have u4 : (s.L.length : Int) ≤ (cap : Int) := by omega
            have u5 : IntKind.i64.wrap ((k : Int) + 1) = (k : Int) + 1 := by rw [IntKind.wrap_i64]; omega
            have u6 : ((k : Int) + 1).toNat = k + 1 := by omega
            rw [hpc] at hV
            clear hPV hfv hg1 hkd hp hmem hd HNO HAN hpc HW1 HW2 HFA2 hn1 hn2
            by_cases hcap : cap = k + 1
            · have HNIL := Lib.hid (show s.L.drop (k + 1) = [] from List.drop_of_length_le (by omega))
              have HLEN := Lib.hid (show (s.L.take k ++ s.L.drop (k + 1)).length = k by rw [HLEN.out]; omega)
              subst hcap
              have v1 : (k : Int) ≤ (k : Int) + 1 := by omega
              have v2 : (s.L.length : Int) ≤ (k : Int) + 1 := by omega
              have v3 : s.L.length - (k + 1) = 0 := by omega
              go_wp2_with fail
              rw [← hV]
              clear hV
              refine regionU (waitO D g s.L.length (k + 1)) (by kernel_rfl) ?_
              refine takeU (fun w => w.cell? ⟨D, 0, none⟩ = some (.slice (some ⟨g, 0, none⟩) s.L.length (k + 1))) (oi := ?oi301) (v := ?v301) 0 [19] [] waitO_F (fun _ h _ => h) ?hi301 (by kernel_rfl) ?hQ301 ?hy301 HD0.out ?h301
              case hi301 => simp only [List.getElem?_toArray, List.getElem?_cons_succ, List.getElem?_cons_zero]; exact rfl
              case hQ301 => exact fun _ _ _ h => h
              case hy301 => (refine Or.inl ⟨by rfl, ?_⟩; intro w' hSw; (try dsimp only at hSw); go_simp; (try with_reducible rfl))
              simp only [Act.put, List.setIfInBounds_toArray, List.set_cons_zero, List.set_cons_succ]
              refine takeU (fun w => w.cell? ⟨D, 0, none⟩ = some (.slice (some ⟨g, 0, none⟩) s.L.length (k + 1))) (oi := ?oi302) (v := ?v302) 2 [19] [] waitO_F (fun _ h _ => h) ?hi302 (by kernel_rfl) ?hQ302 ?hy302 HD0.out ?h302
              case hi302 => simp only [List.getElem?_toArray, List.getElem?_cons_succ, List.getElem?_cons_zero]; exact rfl
              case hQ302 => exact fun _ _ _ h => h
              case hy302 => (refine Or.inl ⟨by rfl, ?_⟩; intro w' hSw; (try dsimp only at hSw); go_simp; (try with_reducible rfl))
              simp only [Act.put, List.setIfInBounds_toArray, List.set_cons_zero, List.set_cons_succ]
              refine takeU (fun w => w.cell? ⟨D, 0, none⟩ = some (.slice (some ⟨g, 0, none⟩) s.L.length (k + 1))) (oi := ?oi303) (v := ?v303) 3 [19] [] waitO_F (fun _ h _ => h) ?hi303 (by kernel_rfl) ?hQ303 ?hy303 HD0.out ?h303
              case hi303 => simp only [List.getElem?_toArray, List.getElem?_cons_succ, List.getElem?_cons_zero]; exact rfl
              case hQ303 => exact fun _ _ _ h => h
              case hy303 => (refine Or.inl ⟨by rfl, ?_⟩; intro w' hSw; (try dsimp only at hSw); go_simp; (try with_reducible rfl))
              simp only [Act.put, List.setIfInBounds_toArray, List.set_cons_zero, List.set_cons_succ]
              refine takeU (fun w => w.cell? ⟨D, 0, none⟩ = some (.slice (some ⟨g, 0, none⟩) s.L.length (k + 1))) (oi := ?oi304) (v := ?v304) 4 [19] [] waitO_F (fun _ h _ => h) ?hi304 (by kernel_rfl) ?hQ304 ?hy304 HD0.out ?h304
              case hi304 => simp only [List.getElem?_toArray, List.getElem?_cons_succ, List.getElem?_cons_zero]; exact rfl
              case hQ304 => exact fun _ _ _ h => h
              case hy304 => (refine Or.inl ⟨by rfl, ?_⟩; intro w' hSw; (try dsimp only at hSw); go_simp; (try with_reducible rfl))
              simp only [Act.put, List.setIfInBounds_toArray, List.set_cons_zero, List.set_cons_succ]
              refine takeU (fun w => w.cell? ⟨D, 0, none⟩ = some (.slice (some ⟨g, 0, none⟩) s.L.length (k + 1))) (oi := ?oi305) (v := ?v305) 5 [19] [] waitO_F (fun _ h _ => h) ?hi305 (by kernel_rfl) ?hQ305 ?hy305 HD0.out ?h305
              case hi305 => simp only [List.getElem?_toArray, List.getElem?_cons_succ, List.getElem?_cons_zero]; exact rfl
              case hQ305 => exact fun _ _ _ h => h
              case hy305 => (refine Or.inl ⟨by rfl, ?_⟩; intro w' hSw; (try dsimp only at hSw); go_simp; (try with_reducible rfl))
              simp only [Act.put, List.setIfInBounds_toArray, List.set_cons_zero, List.set_cons_succ]
              refine takeU (fun w => w.cell? ⟨D, 0, none⟩ = some (.slice (some ⟨g, 0, none⟩) s.L.length (k + 1))) (oi := ?oi306) (v := ?v306) 6 [19] [] waitO_F (fun _ h _ => h) ?hi306 (by kernel_rfl) ?hQ306 ?hy306 HD0.out ?h306
              case hi306 => simp only [List.getElem?_toArray, List.getElem?_cons_succ, List.getElem?_cons_zero]; exact rfl
              case hQ306 => exact fun _ _ _ h => h
              case hy306 => (refine Or.inl ⟨by rfl, ?_⟩; intro w' hSw; (try dsimp only at hSw); go_simp; (try with_reducible rfl))
              simp only [Act.put, List.setIfInBounds_toArray, List.set_cons_zero, List.set_cons_succ]
              refine takeU (fun w => w.cell? ⟨D, 0, none⟩ = some (.slice (some ⟨g, 0, none⟩) s.L.length (k + 1))) (oi := ?oi307) (v := ?v307) 7 [19] [] waitO_F (fun _ h _ => h) ?hi307 (by kernel_rfl) ?hQ307 ?hy307 HD0.out ?h307
              case hi307 => simp only [List.getElem?_toArray, List.getElem?_cons_succ, List.getElem?_cons_zero]; exact rfl
              case hQ307 => exact fun _ _ _ h => h
              case hy307 => (refine Or.inl ⟨by rfl, ?_⟩; intro w' hSw; (try dsimp only at hSw); go_simp; (try with_reducible rfl))
              simp only [Act.put, List.setIfInBounds_toArray, List.set_cons_zero, List.set_cons_succ]
              refine takeU (fun w => w.cell? ⟨D, 0, none⟩ = some (.slice (some ⟨g, 0, none⟩) s.L.length (k + 1))) (oi := ?oi308) (v := ?v308) 9 [19] [] waitO_F (fun _ h _ => h) ?hi308 (by kernel_rfl) ?hQ308 ?hy308 HD0.out ?h308
              case hi308 => simp only [List.getElem?_toArray, List.getElem?_cons_succ, List.getElem?_cons_zero]; exact rfl
              case hQ308 => exact fun _ _ _ h => h
              case hy308 => (refine Or.inl ⟨by rfl, ?_⟩; intro w' hSw; (try dsimp only at hSw); go_simp; (try with_reducible rfl))
              simp only [Act.put, List.setIfInBounds_toArray, List.set_cons_zero, List.set_cons_succ]
              refine takeU (fun w => w.cell? ⟨D, 0, none⟩ = some (.slice (some ⟨g, 0, none⟩) s.L.length (k + 1))) (oi := ?oi309) (v := ?v309) 10 [19] [] waitO_F (fun _ h _ => h) ?hi309 (by kernel_rfl) ?hQ309 ?hy309 HD0.out ?h309
              case hi309 => simp only [List.getElem?_toArray, List.getElem?_cons_succ, List.getElem?_cons_zero]; exact rfl
              case hQ309 => exact fun _ _ _ h => h
              case hy309 => (refine Or.inl ⟨by rfl, ?_⟩; intro w' hSw; (try dsimp only at hSw); go_simp; (try with_reducible rfl))
              simp only [Act.put, List.setIfInBounds_toArray, List.set_cons_zero, List.set_cons_succ]
              refine takeU (fun w => w.cell? ⟨D, 0, none⟩ = some (.slice (some ⟨g, 0, none⟩) s.L.length (k + 1))) (oi := ?oi310) (v := ?v310) 11 [19] [] waitO_F (fun _ h _ => h) ?hi310 (by kernel_rfl) ?hQ310 ?hy310 HD0.out ?h310
              case hi310 => simp only [List.getElem?_toArray, List.getElem?_cons_succ, List.getElem?_cons_zero]; exact rfl
              case hQ310 => exact fun _ _ _ h => h
              case hy310 => (refine Or.inl ⟨by rfl, ?_⟩; intro w' hSw; (try dsimp only at hSw); go_simp; (try with_reducible rfl))
              simp only [Act.put, List.setIfInBounds_toArray, List.set_cons_zero, List.set_cons_succ]
              refine takeU (fun w => w.cell? ⟨D, 0, none⟩ = some (.slice (some ⟨g, 0, none⟩) s.L.length (k + 1))) (oi := ?oi311) (v := ?v311) 12 [19] [] waitO_F (fun _ h _ => h) ?hi311 (by kernel_rfl) ?hQ311 ?hy311 HD0.out ?h311
              case hi311 => simp only [List.getElem?_toArray, List.getElem?_cons_succ, List.getElem?_cons_zero]; exact rfl
              case hQ311 => exact fun _ _ _ h => h
              case hy311 => (refine Or.inl ⟨by rfl, ?_⟩; intro w' hSw; (try dsimp only at hSw); go_simp; (try with_reducible rfl))
              simp only [Act.put, List.setIfInBounds_toArray, List.set_cons_zero, List.set_cons_succ]
              refine takeU (fun w => w.cell? ⟨D, 0, none⟩ = some (.slice (some ⟨g, 0, none⟩) s.L.length (k + 1))) (oi := ?oi312) (v := ?v312) 13 [19] [] waitO_F (fun _ h _ => h) ?hi312 (by kernel_rfl) ?hQ312 ?hy312 HD0.out ?h312
              case hi312 => simp only [List.getElem?_toArray, List.getElem?_cons_succ, List.getElem?_cons_zero]; exact rfl
              case hQ312 => exact fun _ _ _ h => h
              case hy312 => (refine Or.inl ⟨by rfl, ?_⟩; intro w' hSw; (try dsimp only at hSw); go_simp; (try with_reducible rfl))
              simp only [Act.put, List.setIfInBounds_toArray, List.set_cons_zero, List.set_cons_succ]
              refine takeU (fun w => w.cell? ⟨D, 0, none⟩ = some (.slice (some ⟨g, 0, none⟩) s.L.length (k + 1))) (oi := ?oi313) (v := ?v313) 14 [19] [] waitO_F (fun _ h _ => h) ?hi313 (by kernel_rfl) ?hQ313 ?hy313 HD0.out ?h313
              case hi313 => simp only [List.getElem?_toArray, List.getElem?_cons_succ, List.getElem?_cons_zero]; exact rfl
              case hQ313 => exact fun _ _ _ h => h
              case hy313 => (refine Or.inl ⟨by rfl, ?_⟩; intro w' hSw; (try dsimp only at hSw); go_simp; (try with_reducible rfl))
              simp only [Act.put, List.setIfInBounds_toArray, List.set_cons_zero, List.set_cons_succ]
              refine takeU (fun w => w.cell? ⟨D, 0, none⟩ = some (.slice (some ⟨g, 0, none⟩) s.L.length (k + 1))) (oi := ?oi314) (v := ?v314) 15 [19] [] waitO_F (fun _ h _ => h) ?hi314 (by kernel_rfl) ?hQ314 ?hy314 HD0.out ?h314
              case hi314 => simp only [List.getElem?_toArray, List.getElem?_cons_succ, List.getElem?_cons_zero]; exact rfl
              case hQ314 => exact fun _ _ _ h => h
              case hy314 => (refine Or.inl ⟨by rfl, ?_⟩; intro w' hSw; (try dsimp only at hSw); go_simp; (try with_reducible rfl))
              simp only [Act.put, List.setIfInBounds_toArray, List.set_cons_zero, List.set_cons_succ]
              refine readyU [1] (by kernel_rfl) (by simp) ?_
              refine EachU.cons (o := ?o315) ?ho315 (fun K hK => ?_) ?_
              case ho315 => simp only [List.getElem?_toArray, List.getElem?_cons_succ, List.getElem?_cons_zero]; exact rfl
              rotate_left
              · exact EachU.nil
              go_simp
              refine hK.out _ _ (fun _ => (((Fr.refl (fun _ => False) V).alloc (.cells #[] 35)).drew).cell HD0.out id) (fun _ => ?_)
              clear hK K
              (try simp only [Act.put, List.setIfInBounds_toArray, List.set_cons_zero, List.set_cons_succ])
              refine readyU [8] (by kernel_rfl) (by simp) ?_
              refine EachU.cons (o := ?o316) ?ho316 (fun K hK => ?_) ?_
              case ho316 => simp only [List.getElem?_toArray, List.getElem?_cons_succ, List.getElem?_cons_zero]; exact rfl
              rotate_left
              · exact EachU.nil
              refine step_append_any (by rfl) _ _ (by rfl) (by rfl) V.heap.size V.heap.size 0 0 [] (by simp [Act.eval, Act.put]) ((World.ownsRow_made V #[] 0 (Nat.le_refl _) (by decide) rfl).drew) (some ⟨g, 0, none⟩) k (k + 1) (by simp [Act.eval, Act.put]) (rowsC (s.L.take k)) ((N1.out.fr ((Fr.refl (fun _ => False) V).alloc _).drew fun _ _ _ => id)) (by decide) (by omega) (by simp) ?_
              intro g3 cap3 w3 hown3 hgrow3 hat3 hlt3
              simp only [Nat.zero_add, List.nil_append] at hown3 ⊢
              have hF3 : Fr (fun _ => False) V w3 := ((Fr.refl (fun _ => False) V).alloc _).drew.into hgrow3 (Nat.le_refl _)
              have hb3 := (hown3.lt g3 rfl).1
              refine hK.out _ _ (fun _ => hF3.cell HD0.out id) (fun _ => ?_)
              clear hK K
              (try simp only [Act.put, List.setIfInBounds_toArray, List.set_cons_zero, List.set_cons_succ])
              refine readyU [16] (by kernel_rfl) (by simp) ?_
              refine EachU.cons (o := ?o317) ?ho317 (fun K hK => ?_) ?_
              case ho317 => simp only [List.getElem?_toArray, List.getElem?_cons_succ, List.getElem?_cons_zero]; exact rfl
              rotate_left
              · exact EachU.nil
              refine step_append_any (by rfl) _ _ (by rfl) (by rfl) V.heap.size g3 k cap3 (rowsC (s.L.take k)) (by simp [Act.eval, Act.put]) hown3 (some ⟨g, 0, none⟩) 0 0 (by simp [Act.eval, Act.put]) [] ⟨rfl, (fun _ h => by cases h), fun h0 => absurd h0 (Nat.lt_irrefl 0)⟩ (by omega) (by omega) hF3.size ?_
              intro g5 cap5 w5 hown5 hgrow5 hat5 hlt5
              have hF5 : Fr (fun _ => False) V w5 := hF3.into hgrow5 hb3
              have hz5 : w5.frozen? ⟨D, 0, none⟩ = false := (World.frozen?_of_block (a := ⟨D, 0, none⟩) (hF5.block D HDV.out id)).trans HZ0.out
              have hc5 : w5.cell? ⟨D, 0, none⟩ = some (.slice (some ⟨g, 0, none⟩) s.L.length (k + 1)) := hF5.cell HD0.out id
              refine hK.out _ _ (fun _ => hc5) (fun _ => ?_)
              clear hK K
              (try simp only [Act.put, List.setIfInBounds_toArray, List.set_cons_zero, List.set_cons_succ])
              refine readyU [17] (by kernel_rfl) (by simp) ?_
              refine EachU.cons (o := ?o318) ?ho318 (fun K hK => ?_) ?_
              case ho318 => simp only [List.getElem?_toArray, List.getElem?_cons_succ, List.getElem?_cons_zero]; exact rfl
              rotate_left
              · exact EachU.nil
              go_simp
              refine hK.out _ _ (fun _ => hc5) (fun _ => ?_)
              clear hK K
              (try simp only [Act.put, List.setIfInBounds_toArray, List.set_cons_zero, List.set_cons_succ])
              refine readyU [18] (by kernel_rfl) (by simp) ?_
              refine EachU.cons (o := ?o319) ?ho319 (fun K hK => ?_) ?_
              case ho319 => simp only [List.getElem?_toArray, List.getElem?_cons_succ, List.getElem?_cons_zero]; exact rfl
              rotate_left
              · exact EachU.nil
              go_simp
              refine hK.out _ _ (fun _ => hc5) (fun _ => ?_)
              clear hK K
              (try simp only [Act.put, List.setIfInBounds_toArray, List.set_cons_zero, List.set_cons_succ])
              refine readyU [19] (by kernel_rfl) (by simp) ?_
              refine EachU.cons (o := ?o320) ?ho320 (fun K hK => ?_) ?_
              case ho320 => simp only [List.getElem?_toArray, List.getElem?_cons_succ, List.getElem?_cons_zero]; exact rfl
              rotate_left
              · exact EachU.nil
              go_simp
              refine hK.out _ _ (fun h => absurd rfl h) (fun _ => ?_)
              clear hK K
              (try simp only [Act.put, List.setIfInBounds_toArray, List.set_cons_zero, List.set_cons_succ])
              refine doneU (by kernel_rfl) ?_ _
              rw [Nat.add_zero, List.append_nil] at hown5
              have hRow : w5.ownsRow B 35 7 (.slice (some ⟨g5, 0, none⟩) k cap5) (dropP p.pid s.L).length (rowsC (dropP p.pid s.L)) := by
                have hbb := HBV.out
                have e1 := HDROP.out
                have e2 := HLEN.out
                rw [e1]
                rw [e2]
                skip
                rw [HNIL.out, List.append_nil]
                refine ⟨hown5.1, ?_⟩
                rcases hown5.2 with q | ⟨g', cap', cur, q1, q2, q3⟩
                · exact .inl q
                · exact .inr ⟨g', cap', cur, q1, Nat.le_trans hbb q2, q3⟩
              have HD6 := Lib.hid ((HDV2.out.fr hF5 fun _ _ => id))
              have hg5 : V.heap.size ≤ g5 := (hown5.lt g5 rfl).1
              have K6 := Lib.hid (DR.sRow HD6.out hRow)
              have HF6 : Fr (Bd D (.slice (some ⟨g, 0, none⟩) s.L.length (k + 1)) u) W (w5.setCell ⟨D, 0, none⟩ (.slice (some ⟨g5, 0, none⟩) k cap5)) := ((HFV.out.trans hF5).mono fun _ _ h => h.elim).setCell (p := ⟨D, 0, none⟩) (.inl (.inl rfl)) _
              have HF6 := Lib.hid HF6
              have hDn : D ≠ wr.heap.size := fun e => by have := heap_lt hPr.hb; omega
              have m0 : (w5.setCell ⟨D, 0, none⟩ (.slice (some ⟨g5, 0, none⟩) k cap5)).cell? ⟨wr.heap.size, 0, none⟩ = some (.int .i64 p.pid) := (World.cell?_of_block (Below.heap_setCell _ _ _ _ (Ne.symm hDn))).trans (hF5.cell HB0.out id)
              have m4 : (w5.setCell ⟨D, 0, none⟩ (.slice (some ⟨g5, 0, none⟩) k cap5)).cell? ⟨wr.heap.size, 4, none⟩ = some (.int .i64 p.status) := (World.cell?_of_block (Below.heap_setCell _ _ _ _ (Ne.symm hDn))).trans (hF5.cell HB4.out id)
              have hWV := HWV.out
              clear hown5 hown3 hgrow5 hgrow3 hRow hF5 hF3 hc5 hz5 hPr e0 e1 e2 e3 e4 e5 e6
              generalize w5.setCell ⟨D, 0, none⟩ (.slice (some ⟨g5, 0, none⟩) k cap5) = w6 at *
              go_wp2_with fail
              go_quiet (fail)
              go_wp2
              go_ret3
              rw [HFI.out.1, HFI.out.2]
              refine ⟨rfl, _, ⟨_, _, K6.out.fr (S := fun _ => False) ((Fr.refl _ _).drewN _) fun _ _ => id, rfl⟩, ?_⟩
              rw [hR]
              refine ⟨HF6.out.drewN _, ?_⟩
              rintro j (hj | hj | hj)
              · exact .inl (.inl hj)
              · cases hj; exact .inr (Nat.le_trans hWV hg5)
              · exact .inl (.inr (.inr hj))
            · go_wp2_with fail
              rw [← hV]
              clear hV
              refine regionU (waitO D g s.L.length cap) (by kernel_rfl) ?_
              refine takeU (fun w => w.cell? ⟨D, 0, none⟩ = some (.slice (some ⟨g, 0, none⟩) s.L.length cap)) (oi := ?oi401) (v := ?v401) 0 [19] [] waitO_F (fun _ h _ => h) ?hi401 (by kernel_rfl) ?hQ401 ?hy401 HD0.out ?h401
              case hi401 => simp only [List.getElem?_toArray, List.getElem?_cons_succ, List.getElem?_cons_zero]; exact rfl
              case hQ401 => exact fun _ _ _ h => h
              case hy401 => (refine Or.inl ⟨by rfl, ?_⟩; intro w' hSw; (try dsimp only at hSw); go_simp; (try with_reducible rfl))
              simp only [Act.put, List.setIfInBounds_toArray, List.set_cons_zero, List.set_cons_succ]
              refine takeU (fun w => w.cell? ⟨D, 0, none⟩ = some (.slice (some ⟨g, 0, none⟩) s.L.length cap)) (oi := ?oi402) (v := ?v402) 2 [19] [] waitO_F (fun _ h _ => h) ?hi402 (by kernel_rfl) ?hQ402 ?hy402 HD0.out ?h402
              case hi402 => simp only [List.getElem?_toArray, List.getElem?_cons_succ, List.getElem?_cons_zero]; exact rfl
              case hQ402 => exact fun _ _ _ h => h
              case hy402 => (refine Or.inl ⟨by rfl, ?_⟩; intro w' hSw; (try dsimp only at hSw); go_simp; (try with_reducible rfl))
              simp only [Act.put, List.setIfInBounds_toArray, List.set_cons_zero, List.set_cons_succ]
              refine takeU (fun w => w.cell? ⟨D, 0, none⟩ = some (.slice (some ⟨g, 0, none⟩) s.L.length cap)) (oi := ?oi403) (v := ?v403) 3 [19] [] waitO_F (fun _ h _ => h) ?hi403 (by kernel_rfl) ?hQ403 ?hy403 HD0.out ?h403
              case hi403 => simp only [List.getElem?_toArray, List.getElem?_cons_succ, List.getElem?_cons_zero]; exact rfl
              case hQ403 => exact fun _ _ _ h => h
              case hy403 => (refine Or.inl ⟨by rfl, ?_⟩; intro w' hSw; (try dsimp only at hSw); go_simp; (try with_reducible rfl))
              simp only [Act.put, List.setIfInBounds_toArray, List.set_cons_zero, List.set_cons_succ]
              refine takeU (fun w => w.cell? ⟨D, 0, none⟩ = some (.slice (some ⟨g, 0, none⟩) s.L.length cap)) (oi := ?oi404) (v := ?v404) 4 [19] [] waitO_F (fun _ h _ => h) ?hi404 (by kernel_rfl) ?hQ404 ?hy404 HD0.out ?h404
              case hi404 => simp only [List.getElem?_toArray, List.getElem?_cons_succ, List.getElem?_cons_zero]; exact rfl
              case hQ404 => exact fun _ _ _ h => h
              case hy404 => (refine Or.inl ⟨by rfl, ?_⟩; intro w' hSw; (try dsimp only at hSw); go_simp; (try with_reducible rfl))
              simp only [Act.put, List.setIfInBounds_toArray, List.set_cons_zero, List.set_cons_succ]
              refine takeU (fun w => w.cell? ⟨D, 0, none⟩ = some (.slice (some ⟨g, 0, none⟩) s.L.length cap)) (oi := ?oi405) (v := ?v405) 5 [19] [] waitO_F (fun _ h _ => h) ?hi405 (by kernel_rfl) ?hQ405 ?hy405 HD0.out ?h405
              case hi405 => simp only [List.getElem?_toArray, List.getElem?_cons_succ, List.getElem?_cons_zero]; exact rfl
              case hQ405 => exact fun _ _ _ h => h
              case hy405 => (refine Or.inl ⟨by rfl, ?_⟩; intro w' hSw; (try dsimp only at hSw); go_simp; (try with_reducible rfl))
              simp only [Act.put, List.setIfInBounds_toArray, List.set_cons_zero, List.set_cons_succ]
              refine takeU (fun w => w.cell? ⟨D, 0, none⟩ = some (.slice (some ⟨g, 0, none⟩) s.L.length cap)) (oi := ?oi406) (v := ?v406) 6 [19] [] waitO_F (fun _ h _ => h) ?hi406 (by kernel_rfl) ?hQ406 ?hy406 HD0.out ?h406
              case hi406 => simp only [List.getElem?_toArray, List.getElem?_cons_succ, List.getElem?_cons_zero]; exact rfl
              case hQ406 => exact fun _ _ _ h => h
              case hy406 => (refine Or.inl ⟨by rfl, ?_⟩; intro w' hSw; (try dsimp only at hSw); go_simp; (try with_reducible rfl))
              simp only [Act.put, List.setIfInBounds_toArray, List.set_cons_zero, List.set_cons_succ]
              refine takeU (fun w => w.cell? ⟨D, 0, none⟩ = some (.slice (some ⟨g, 0, none⟩) s.L.length cap)) (oi := ?oi407) (v := ?v407) 7 [19] [] waitO_F (fun _ h _ => h) ?hi407 (by kernel_rfl) ?hQ407 ?hy407 HD0.out ?h407
              case hi407 => simp only [List.getElem?_toArray, List.getElem?_cons_succ, List.getElem?_cons_zero]; exact rfl
              case hQ407 => exact fun _ _ _ h => h
              case hy407 => (refine Or.inl ⟨by rfl, ?_⟩; intro w' hSw; (try dsimp only at hSw); go_simp; (try with_reducible rfl))
              simp only [Act.put, List.setIfInBounds_toArray, List.set_cons_zero, List.set_cons_succ]
              refine takeU (fun w => w.cell? ⟨D, 0, none⟩ = some (.slice (some ⟨g, 0, none⟩) s.L.length cap)) (oi := ?oi408) (v := ?v408) 9 [19] [] waitO_F (fun _ h _ => h) ?hi408 (by kernel_rfl) ?hQ408 ?hy408 HD0.out ?h408
              case hi408 => simp only [List.getElem?_toArray, List.getElem?_cons_succ, List.getElem?_cons_zero]; exact rfl
              case hQ408 => exact fun _ _ _ h => h
              case hy408 => (refine Or.inl ⟨by rfl, ?_⟩; intro w' hSw; (try dsimp only at hSw); go_simp; (try with_reducible rfl))
              simp only [Act.put, List.setIfInBounds_toArray, List.set_cons_zero, List.set_cons_succ]
              refine takeU (fun w => w.cell? ⟨D, 0, none⟩ = some (.slice (some ⟨g, 0, none⟩) s.L.length cap)) (oi := ?oi409) (v := ?v409) 10 [19] [] waitO_F (fun _ h _ => h) ?hi409 (by kernel_rfl) ?hQ409 ?hy409 HD0.out ?h409
              case hi409 => simp only [List.getElem?_toArray, List.getElem?_cons_succ, List.getElem?_cons_zero]; exact rfl
              case hQ409 => exact fun _ _ _ h => h
              case hy409 => (refine Or.inl ⟨by rfl, ?_⟩; intro w' hSw; (try dsimp only at hSw); go_simp; (try with_reducible rfl))
              simp only [Act.put, List.setIfInBounds_toArray, List.set_cons_zero, List.set_cons_succ]
              refine takeU (fun w => w.cell? ⟨D, 0, none⟩ = some (.slice (some ⟨g, 0, none⟩) s.L.length cap)) (oi := ?oi410) (v := ?v410) 11 [19] [] waitO_F (fun _ h _ => h) ?hi410 (by kernel_rfl) ?hQ410 ?hy410 HD0.out ?h410
              case hi410 => simp only [List.getElem?_toArray, List.getElem?_cons_succ, List.getElem?_cons_zero]; exact rfl
              case hQ410 => exact fun _ _ _ h => h
              case hy410 => (refine Or.inl ⟨by rfl, ?_⟩; intro w' hSw; (try dsimp only at hSw); go_simp; (try with_reducible rfl))
              simp only [Act.put, List.setIfInBounds_toArray, List.set_cons_zero, List.set_cons_succ]
              refine takeU (fun w => w.cell? ⟨D, 0, none⟩ = some (.slice (some ⟨g, 0, none⟩) s.L.length cap)) (oi := ?oi411) (v := ?v411) 12 [19] [] waitO_F (fun _ h _ => h) ?hi411 (by kernel_rfl) ?hQ411 ?hy411 HD0.out ?h411
              case hi411 => simp only [List.getElem?_toArray, List.getElem?_cons_succ, List.getElem?_cons_zero]; exact rfl
              case hQ411 => exact fun _ _ _ h => h
              case hy411 => (refine Or.inl ⟨by rfl, ?_⟩; intro w' hSw; (try dsimp only at hSw); go_simp; (try with_reducible rfl))
              simp only [Act.put, List.setIfInBounds_toArray, List.set_cons_zero, List.set_cons_succ]
              refine takeU (fun w => w.cell? ⟨D, 0, none⟩ = some (.slice (some ⟨g, 0, none⟩) s.L.length cap)) (oi := ?oi412) (v := ?v412) 13 [19] [] waitO_F (fun _ h _ => h) ?hi412 (by kernel_rfl) ?hQ412 ?hy412 HD0.out ?h412
              case hi412 => simp only [List.getElem?_toArray, List.getElem?_cons_succ, List.getElem?_cons_zero]; exact rfl
              case hQ412 => exact fun _ _ _ h => h
              case hy412 => (refine Or.inl ⟨by rfl, ?_⟩; intro w' hSw; (try dsimp only at hSw); go_simp; (try with_reducible rfl))
              simp only [Act.put, List.setIfInBounds_toArray, List.set_cons_zero, List.set_cons_succ]
              refine takeU (fun w => w.cell? ⟨D, 0, none⟩ = some (.slice (some ⟨g, 0, none⟩) s.L.length cap)) (oi := ?oi413) (v := ?v413) 14 [19] [] waitO_F (fun _ h _ => h) ?hi413 (by kernel_rfl) ?hQ413 ?hy413 HD0.out ?h413
              case hi413 => simp only [List.getElem?_toArray, List.getElem?_cons_succ, List.getElem?_cons_zero]; exact rfl
              case hQ413 => exact fun _ _ _ h => h
              case hy413 => (refine Or.inl ⟨by rfl, ?_⟩; intro w' hSw; (try dsimp only at hSw); go_simp; (try with_reducible rfl))
              simp only [Act.put, List.setIfInBounds_toArray, List.set_cons_zero, List.set_cons_succ]
              refine takeU (fun w => w.cell? ⟨D, 0, none⟩ = some (.slice (some ⟨g, 0, none⟩) s.L.length cap)) (oi := ?oi414) (v := ?v414) 15 [19] [] waitO_F (fun _ h _ => h) ?hi414 (by kernel_rfl) ?hQ414 ?hy414 HD0.out ?h414
              case hi414 => simp only [List.getElem?_toArray, List.getElem?_cons_succ, List.getElem?_cons_zero]; exact rfl
              case hQ414 => exact fun _ _ _ h => h
              case hy414 => (refine Or.inl ⟨by rfl, ?_⟩; intro w' hSw; (try dsimp only at hSw); go_simp; (try with_reducible rfl))
              simp only [Act.put, List.setIfInBounds_toArray, List.set_cons_zero, List.set_cons_succ]
              refine readyU [1] (by kernel_rfl) (by simp) ?_
              refine EachU.cons (o := ?o415) ?ho415 (fun K hK => ?_) ?_
              case ho415 => simp only [List.getElem?_toArray, List.getElem?_cons_succ, List.getElem?_cons_zero]; exact rfl
              rotate_left
              · exact EachU.nil
              go_simp
              refine hK.out _ _ (fun _ => (((Fr.refl (fun _ => False) V).alloc (.cells #[] 35)).drew).cell HD0.out id) (fun _ => ?_)
              clear hK K
              (try simp only [Act.put, List.setIfInBounds_toArray, List.set_cons_zero, List.set_cons_succ])
              refine readyU [8] (by kernel_rfl) (by simp) ?_
              refine EachU.cons (o := ?o416) ?ho416 (fun K hK => ?_) ?_
              case ho416 => simp only [List.getElem?_toArray, List.getElem?_cons_succ, List.getElem?_cons_zero]; exact rfl
              rotate_left
              · exact EachU.nil
              refine step_append_any (by rfl) _ _ (by rfl) (by rfl) V.heap.size V.heap.size 0 0 [] (by simp [Act.eval, Act.put]) ((World.ownsRow_made V #[] 0 (Nat.le_refl _) (by decide) rfl).drew) (some ⟨g, 0, none⟩) k cap (by simp [Act.eval, Act.put]) (rowsC (s.L.take k)) ((N1.out.fr ((Fr.refl (fun _ => False) V).alloc _).drew fun _ _ _ => id)) (by decide) (by omega) (by simp) ?_
              intro g3 cap3 w3 hown3 hgrow3 hat3 hlt3
              simp only [Nat.zero_add, List.nil_append] at hown3 ⊢
              have hF3 : Fr (fun _ => False) V w3 := ((Fr.refl (fun _ => False) V).alloc _).drew.into hgrow3 (Nat.le_refl _)
              have hb3 := (hown3.lt g3 rfl).1
              refine hK.out _ _ (fun _ => hF3.cell HD0.out id) (fun _ => ?_)
              clear hK K
              (try simp only [Act.put, List.setIfInBounds_toArray, List.set_cons_zero, List.set_cons_succ])
              refine readyU [16] (by kernel_rfl) (by simp) ?_
              refine EachU.cons (o := ?o417) ?ho417 (fun K hK => ?_) ?_
              case ho417 => simp only [List.getElem?_toArray, List.getElem?_cons_succ, List.getElem?_cons_zero]; exact rfl
              rotate_left
              · exact EachU.nil
              refine step_append_any (by rfl) _ _ (by rfl) (by rfl) V.heap.size g3 k cap3 (rowsC (s.L.take k)) (by simp [Act.eval, Act.put]) hown3 (some ⟨g, (k + 1) * 7, none⟩) (s.L.length - (k + 1)) (cap - (k + 1)) (by simp [Act.eval, Act.put]) (rowsC (s.L.drop (k + 1))) (N2.out.fr hF3 fun _ _ _ => id) (by omega) (by omega) hF3.size ?_
              intro g5 cap5 w5 hown5 hgrow5 hat5 hlt5
              have hF5 : Fr (fun _ => False) V w5 := hF3.into hgrow5 hb3
              have hz5 : w5.frozen? ⟨D, 0, none⟩ = false := (World.frozen?_of_block (a := ⟨D, 0, none⟩) (hF5.block D HDV.out id)).trans HZ0.out
              have hc5 : w5.cell? ⟨D, 0, none⟩ = some (.slice (some ⟨g, 0, none⟩) s.L.length cap) := hF5.cell HD0.out id
              refine hK.out _ _ (fun _ => hc5) (fun _ => ?_)
              clear hK K
              (try simp only [Act.put, List.setIfInBounds_toArray, List.set_cons_zero, List.set_cons_succ])
              refine readyU [17] (by kernel_rfl) (by simp) ?_
              refine EachU.cons (o := ?o418) ?ho418 (fun K hK => ?_) ?_
              case ho418 => simp only [List.getElem?_toArray, List.getElem?_cons_succ, List.getElem?_cons_zero]; exact rfl
              rotate_left
              · exact EachU.nil
              go_simp
              refine hK.out _ _ (fun _ => hc5) (fun _ => ?_)
              clear hK K
              (try simp only [Act.put, List.setIfInBounds_toArray, List.set_cons_zero, List.set_cons_succ])
              refine readyU [18] (by kernel_rfl) (by simp) ?_
              refine EachU.cons (o := ?o419) ?ho419 (fun K hK => ?_) ?_
              case ho419 => simp only [List.getElem?_toArray, List.getElem?_cons_succ, List.getElem?_cons_zero]; exact rfl
              rotate_left
              · exact EachU.nil
              go_simp
              refine hK.out _ _ (fun _ => hc5) (fun _ => ?_)
              clear hK K
              (try simp only [Act.put, List.setIfInBounds_toArray, List.set_cons_zero, List.set_cons_succ])
              refine readyU [19] (by kernel_rfl) (by simp) ?_
              refine EachU.cons (o := ?o420) ?ho420 (fun K hK => ?_) ?_
              case ho420 => simp only [List.getElem?_toArray, List.getElem?_cons_succ, List.getElem?_cons_zero]; exact rfl
              rotate_left
              · exact EachU.nil
              go_simp
              refine hK.out _ _ (fun h => absurd rfl h) (fun _ => ?_)
              clear hK K
              (try simp only [Act.put, List.setIfInBounds_toArray, List.set_cons_zero, List.set_cons_succ])
              refine doneU (by kernel_rfl) ?_ _
              rw [← rowsC_app, ← HLEN.out] at hown5
              skip
              have hRow : w5.ownsRow B 35 7 (.slice (some ⟨g5, 0, none⟩) (k + (s.L.length - (k + 1))) cap5) (dropP p.pid s.L).length (rowsC (dropP p.pid s.L)) := by
                have hbb := HBV.out
                have e1 := HDROP.out
                have e2 := HLEN.out
                rw [e1]
                rw [e2]
                rw [e2] at hown5
      
                refine ⟨hown5.1, ?_⟩
                rcases hown5.2 with q | ⟨g', cap', cur, q1, q2, q3⟩
                · exact .inl q
                · exact .inr ⟨g', cap', cur, q1, Nat.le_trans hbb q2, q3⟩
              have HD6 := Lib.hid ((HDV2.out.fr hF5 fun _ _ => id))
              have hg5 : V.heap.size ≤ g5 := (hown5.lt g5 rfl).1
              have K6 := Lib.hid (DR.sRow HD6.out hRow)
              have HF6 : Fr (Bd D (.slice (some ⟨g, 0, none⟩) s.L.length cap) u) W (w5.setCell ⟨D, 0, none⟩ (.slice (some ⟨g5, 0, none⟩) (k + (s.L.length - (k + 1))) cap5)) := ((HFV.out.trans hF5).mono fun _ _ h => h.elim).setCell (p := ⟨D, 0, none⟩) (.inl (.inl rfl)) _
              have HF6 := Lib.hid HF6
              have hDn : D ≠ wr.heap.size := fun e => by have := heap_lt hPr.hb; omega
              have m0 : (w5.setCell ⟨D, 0, none⟩ (.slice (some ⟨g5, 0, none⟩) (k + (s.L.length - (k + 1))) cap5)).cell? ⟨wr.heap.size, 0, none⟩ = some (.int .i64 p.pid) := (World.cell?_of_block (Below.heap_setCell _ _ _ _ (Ne.symm hDn))).trans (hF5.cell HB0.out id)
              have m4 : (w5.setCell ⟨D, 0, none⟩ (.slice (some ⟨g5, 0, none⟩) (k + (s.L.length - (k + 1))) cap5)).cell? ⟨wr.heap.size, 4, none⟩ = some (.int .i64 p.status) := (World.cell?_of_block (Below.heap_setCell _ _ _ _ (Ne.symm hDn))).trans (hF5.cell HB4.out id)
              have hWV := HWV.out
              clear hown5 hown3 hgrow5 hgrow3 hRow hF5 hF3 hc5 hz5 hPr e0 e1 e2 e3 e4 e5 e6
              generalize w5.setCell ⟨D, 0, none⟩ (.slice (some ⟨g5, 0, none⟩) (k + (s.L.length - (k + 1))) cap5) = w6 at *
              go_wp2_with fail
              go_quiet (fail)
              go_wp2
              go_ret3
              rw [HFI.out.1, HFI.out.2]
              refine ⟨rfl, _, ⟨_, _, K6.out.fr (S := fun _ => False) ((Fr.refl _ _).drewN _) fun _ _ => id, rfl⟩, ?_⟩
              rw [hR]
              refine ⟨HF6.out.drewN _, ?_⟩
              rintro j (hj | hj | hj)
              · exact .inl (.inl hj)
              · cases hj; exact .inr (Nat.le_trans hWV hg5)
              · exact .inl (.inr (.inr hj))
      · have hkl : k = s.L.length := by omega
        have hn := HNO.out
        rw [hkl, List.take_length] at hn
        have HFI := Lib.hid (HW2.out (List.find?_eq_none.2 fun q hq => by rw [hn q hq]; decide))
        have i2 : ¬ ((k : Int) < (s.L.length : Int)) := by omega
        have hev := HEV.out
        rw [hkl, List.take_length] at hev
        have HEW := Lib.hid hev
        clear hn hkl hev hPr
        cases ev
        all_goals
          go_wp2
          go_ret3
          rw [HFI.out.1, HFI.out.2, HEW.out]
          exact ⟨rfl, hR ▸ HT.out.does_fr HFr.out⟩
end
end Go.Proofs.Ytgbmedbkonloiaa
