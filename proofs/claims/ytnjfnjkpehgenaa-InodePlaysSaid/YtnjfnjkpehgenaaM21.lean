/- LQ, LR: several texts in one. -/
import Derived.Deep.CutBlock
import Derived.Deep.DeepCutAuto
import Derived.Test.YtnjfnjkpehgenaaM16
import Derived.Test.YtnjfnjkpehgenaaM18
import Derived.Test.YtnjfnjkpehgenaaM19
import Derived.Test.YtnjfnjkpehgenaaM20

/- Contract of almonerlaw06.as: an inode is as the document's; the document's New of what is no mode or no number. -/
namespace Go.Proofs.Ytnjfnjkpehgenaa
open Go.RowKit Ino Go.Maps
set_option linter.unusedVariables false
set_option linter.unusedSimpArgs false

theorem new_none (m o : Int) (w : World) (hk : rOk m o o = false) :
    Calls Try.prog 9 #[.int .i64 m, .int .i64 o, .int .i64 o] w fun e w' => e = .returned (.pointer none) ∧ w = w' := by
  have h1 := fun W => mright_any m W
  have h2 := fun W => iid_any o W
  unfold rOk at hk
  cases e1 : rMode m
  · rw [e1] at h1
    clear h2 hk
    go_enter Try.func9, Try.ntmps9
    go_wp2_with (first | (go_at_call 32; refine (h1 _).mono ?_; rintro e w' ⟨rfl, rfl⟩))
    go_ret
    exact ⟨rfl, rfl⟩
  · cases e2 : rId o
    · rw [e1] at h1
      rw [e2] at h2
      clear hk
      go_enter Try.func9, Try.ntmps9
      go_wp2_with (first | (go_at_call 32; refine (h1 _).mono ?_; rintro e w' ⟨rfl, rfl⟩) | (go_at_call 33; (with_reducible refine (h2 _).mono ?_); rintro e w' ⟨rfl, rfl⟩))
      go_ret
      exact ⟨rfl, rfl⟩
    · rw [e1, e2] at hk
      cases hk
variable {w0 w : World} {A C B : Nat} {t : T} {K : Nat → Prop}
/-- behind k marks in the names that were told. -/
def quesRel (wa : World) (pp : Option Addr) (n cc : Nat) (kv : Value) (wr : World) : Prop := ∃ k : Nat, kv = .int .i64 k ∧ k ≤ n ∧ (∃ xs, wr.ownsRow wa.heap.size 9 1 (.slice pp n cc) n xs) ∧ Fr (fun g => wa.heap.size ≤ g) wa wr
def infObj (ni kd md ow gr nl sz ty : Int) : Obj := .cells #[.int .i64 ni, .int .i64 kd, .int .i64 md, .int .i64 ow, .int .i64 gr, .int .i64 nl, .int .i64 sz, .int .i64 ty] 40
theorem topq (w : World) (cs : Array Value) (t : TypeId) {j : Nat} {v : Value} (h : cs[j]? = some v) : (w.alloc (.cells cs t)).cell? ⟨w.heap.size, j, none⟩ = some v := by
  rw [cell_of_row _ w.heap.size j _ _ (0, 0) (heap_alloc_new w _)]
  exact h
theorem row_at2 {w : World} {base : Nat} {p : Option Addr} {n cap : Nat} {xs : List Value} {e : TypeId} (h : w.ownsRow base e 1 (.slice p n cap) n xs) (hn : 0 < n) : ∃ g, p = some ⟨g, 0, none⟩ := by
  rcases h.2 with ⟨_, h0⟩ | ⟨g, cap, cur, hv, _⟩
  · omega
  · cases hv; exact ⟨g, rfl⟩
theorem own_fr {base n size : Nat} {e : TypeId} {v : Value} {xs : List Value} {w' : World} (h : w.ownsRow base e size v n xs) (hf : Fr (fun _ => False) w w') : w'.ownsRow base e size v n xs := by
  obtain ⟨h1, h2⟩ := h
  refine ⟨h1, ?_⟩
  rcases h2 with h2 | ⟨g, cap, cur, hv, hg, hh, r⟩
  · exact .inl h2
  · exact .inr ⟨g, cap, cur, hv, hg, (hf.block g (Array.getElem?_eq_some_iff.1 hh).1 id).trans hh, r⟩
set_option maxHeartbeats 8000000 in
set_option maxRecDepth 100000 in
theorem as6_any (h : TW K w0 w A C B t t) (hs : Sound t) (i : Int) (s : ByteArray) (hsz : s.size ≤ maxLen) :
    Calls Try.prog 11 #[.pointer (some ⟨A, 0, none⟩), .pointer (some ⟨C, 0, none⟩), .int .i64 i, .string s] w fun e w' => e = .returned (.bool true) ∧ TW K w0 w' A C B t t := by
  obtain ⟨a, ok, hst⟩ : ∃ a ok, statP t i = (a, ok) := ⟨_, _, rfl⟩
  obtain ⟨ni, kd, md, ow, gr, nl, sz, ty⟩ := a
  have q1 := fun wx (hx : TW K w0 wx A C B t t) => tp_stat hx hs.sd i
  have q2 := fun wx (hx : TW K w0 wx A C B t t) => td_stat hx hs.sd i
  simp only [hst, infV] at q1 q2
  have Q1 := Lib.hid q1
  have Q2 := Lib.hid q2
  clear q1 q2 hst
  go_enter Try.func11, Try.ntmps11
  go_upto_region 2 with (go_at_call 15; refine (Q1.out _ h).mono ?_; rintro e w1 ⟨rfl, p1, b1⟩)
  have p1a := p1.alloc (infObj ni kd md ow gr nl sz ty)
  have b1a : Below w.heap.size w (w1.alloc (infObj ni kd md ow gr nl sz ty)) := b1.alloc b1.size _
  have x1 : ∀ j v, (#[Value.int .i64 ni, .int .i64 kd, .int .i64 md, .int .i64 ow, .int .i64 gr, .int .i64 nl, .int .i64 sz, .int .i64 ty] : Array Value)[j]? = some v → (w1.alloc (infObj ni kd md ow gr nl sz ty)).cell? ⟨w1.heap.size, j, none⟩ = some v := fun j v h => topq w1 _ _ h
  have hX0 : w.heap.size ≤ w1.heap.size := b1.size
  have hX1 : w1.heap.size < (w1.alloc (infObj ni kd md ow gr nl sz ty)).heap.size := by simp
  unfold infObj at p1a b1a x1 hX1
  generalize w1.alloc (Obj.cells #[.int .i64 ni, .int .i64 kd, .int .i64 md, .int .i64 ow, .int .i64 gr, .int .i64 nl, .int .i64 sz, .int .i64 ty] 40) = w2 at *
  generalize w1.heap.size = X at *
  clear p1 b1
  go_upto_region 3 with (go_at_call 48; refine (Q2.out _ p1a).mono ?_; rintro e w3 ⟨rfl, p3, b3⟩)
  have p3a := p3.alloc (infObj ni kd md ow gr nl sz ty)
  have b3a : Below w.heap.size w (w3.alloc (infObj ni kd md ow gr nl sz ty)) := (b1a.trans (b3.mono b1a.size)).alloc (Nat.le_trans b1a.size b3.size) _
  have x3 : ∀ j v, (#[Value.int .i64 ni, .int .i64 kd, .int .i64 md, .int .i64 ow, .int .i64 gr, .int .i64 nl, .int .i64 sz, .int .i64 ty] : Array Value)[j]? = some v → (w3.alloc (infObj ni kd md ow gr nl sz ty)).cell? ⟨w3.heap.size, j, none⟩ = some v := fun j v h => topq w3 _ _ h
  have x1' : ∀ j v, (#[Value.int .i64 ni, .int .i64 kd, .int .i64 md, .int .i64 ow, .int .i64 gr, .int .i64 nl, .int .i64 sz, .int .i64 ty] : Array Value)[j]? = some v → (w3.alloc (infObj ni kd md ow gr nl sz ty)).cell? ⟨X, j, none⟩ = some v := fun j v h => ((b3.alloc b3.size _).cell (p := ⟨X, j, none⟩) hX1).trans (x1 j v h)
  have hY0 : w.heap.size ≤ w3.heap.size := Nat.le_trans b1a.size b3.size
  have hY1 : w3.heap.size < (w3.alloc (infObj ni kd md ow gr nl sz ty)).heap.size := by simp
  have hX2 : X < (w3.alloc (infObj ni kd md ow gr nl sz ty)).heap.size := by simp; have := b3.size; omega
  unfold infObj at p3a b3a x3 x1' hY1 hX2
  generalize w3.alloc (Obj.cells #[.int .i64 ni, .int .i64 kd, .int .i64 md, .int .i64 ow, .int .i64 gr, .int .i64 nl, .int .i64 sz, .int .i64 ty] 40) = wa at *
  generalize w3.heap.size = Y at *
  clear p3 b3 x1 p1a b1a hX1 w2
  have r0 := h.rebase b3a
  have hKX : KN K w wa X := .inr ⟨hX0, hX2⟩
  have hKY : KN K w wa Y := .inr ⟨hY0, hY1⟩
  have HUN := Lib.hid (fun w' (h' : TW (KN K w wa) wa w' A C B t t) => h'.unbase h b3a)
  clear h p3a b3a hX0 hX2 hY0 hY1 Q1 Q2
  generalize KN K w wa = K1 at *
  have q3 := tp_names r0 hs.sd i
  have q4 := fun wx (hx : TW K1 wa wx A C B t t) => td_names hx hs.sd i
  have q5 := fun (wx : World) (v u : Value) (hv : Rd wx v (namesP t i)) (hu : Rd wx u (namesP t i)) => same_any v u (namesP t i) (namesP t i) wx hv hu
  simp only [decide_true] at q5
  have hlen : (namesP t i).length ≤ 40 := by
    unfold namesP
    split
    · rw [namesE_length]; exact hs.sd.len _
    · exact Nat.zero_le _
  generalize namesP t i = l at *
  obtain ⟨n, hn⟩ : ∃ n, l.length = n := ⟨_, rfl⟩
  have Q3 := Lib.hid q3
  have Q4 := Lib.hid q4
  have Q5 := Lib.hid q5
  have HR0 := Lib.hid r0
  have HN := Lib.hid hn
  have X3 := Lib.hid x3
  have X1 := Lib.hid x1'
  rw [hn] at hlen
  clear q3 q4 q5 x3 x1' r0 hn
  go_wp2_with (first
    | (go_at_call 12; refine Q3.out.mono ?_; rintro e w4 ⟨v4, rfl, r4, p4, b4⟩; have rv4 := Rd.of_row r4; rw [HN.out] at r4; obtain ⟨pp4, cc4, rfl⟩ := own_form r4)
    | (go_at_call 50; refine (Q4.out _ p4).mono ?_; rintro e w5 ⟨v5, rfl, r5, p5, f5⟩; have rv5 := Rd.of_row r5; have s4 := own_fr r4 f5; have rv4 := rv4.below (below_fr (Below.refl _ _) f5 fun _ => False.elim))
    | (go_at_call 49; refine (Q5.out _ _ _ rv4 rv5).mono ?_; rintro e w6 ⟨rfl, nd, rfl⟩))
  have hF : Fr (fun g => wa.heap.size ≤ g) wa (w5.drewN nd) := ((Fr.of_below b4).trans (f5.mono fun _ _ => False.elim)).drewN nd
  clear r4 p4 b4 rv4 r5 p5 f5 rv5 Q3 Q4 Q5
  go_loopw [15] (fun kv wr => quesRel wa pp4 n cc4 kv wr) (fun kv _ => n - (intOf kv).toNat)
  case atStart => exact ⟨0, rfl, Nat.zero_le _, ⟨_, s4⟩, hF⟩
  case round =>
    obtain ⟨k, rfl, hk, ⟨xs, r6⟩, hF6⟩ := hrel
    clear s4 hF
    by_cases hkn : k < n
    · obtain ⟨g6, rfl⟩ := row_at2 r6 (show 0 < n by omega)
      have c6 := r6.frozenAt k
      obtain ⟨v6, hv6⟩ : ∃ v6, wr.cell? ⟨g6, k, none⟩ = some v6 := ⟨_, (r6.cellAt k (by omega)).trans (List.getElem?_eq_getElem (by rw [r6.1]; omega))⟩
      have hg6 : wa.heap.size ≤ g6 := (r6.lt g6 rfl).1
      have i1 : (0 : Int) ≤ (k : Int) := by omega
      have i2 : (k : Int) < n := by omega
      have R6 := Lib.hid (r6.stored k (.string ⟨#[63]⟩))
      have HF6 := Lib.hid (hF6.setCell (p := ⟨g6, k, none⟩) (.inr hg6) (.string ⟨#[63]⟩))
      clear r6 hF6
      go_wp2_with fail
      go_roundw
      case rel => exact ⟨k + 1, by go_num, by omega, ⟨_, R6.out.1⟩, HF6.out⟩
      case measure => simp [intOf]; omega
    · have pr := HR0.out.fr hF6 fun _ h => h
      clear r6 hF6
      have x0 := pr.cell hKX (X1.out 0 _ rfl)
      have y0 := pr.cell hKY (X3.out 0 _ rfl)
      have x1 := pr.cell hKX (X1.out 1 _ rfl)
      have y1 := pr.cell hKY (X3.out 1 _ rfl)
      have x2 := pr.cell hKX (X1.out 2 _ rfl)
      have y2 := pr.cell hKY (X3.out 2 _ rfl)
      have x3 := pr.cell hKX (X1.out 3 _ rfl)
      have y3 := pr.cell hKY (X3.out 3 _ rfl)
      have x4 := pr.cell hKX (X1.out 4 _ rfl)
      have y4 := pr.cell hKY (X3.out 4 _ rfl)
      have x5 := pr.cell hKX (X1.out 5 _ rfl)
      have y5 := pr.cell hKY (X3.out 5 _ rfl)
      have x6 := pr.cell hKX (X1.out 6 _ rfl)
      have y6 := pr.cell hKY (X3.out 6 _ rfl)
      have x7 := pr.cell hKX (X1.out 7 _ rfl)
      have y7 := pr.cell hKY (X3.out 7 _ rfl)
      have l1 := tp_look pr hs.sd i ⟨#[46, 46]⟩ (by decide)
      have l2 := td_look pr hs.sd i ⟨#[46, 46]⟩
      have l3 := tp_look pr hs.sd i s hsz
      have l4 := td_look pr hs.sd i s
      have l5 := tp_data pr i
      have l6 := td_data pr i
      obtain ⟨u1, c1, hl1⟩ : ∃ u c, lookP t i (⟨#[46, 46]⟩ : ByteArray).data.toList = (u, c) := ⟨_, _, rfl⟩
      obtain ⟨u2, c2, hl2⟩ : ∃ u c, lookP t i s.data.toList = (u, c) := ⟨_, _, rfl⟩
      rw [hl1] at l1 l2
      rw [hl2] at l3 l4
      unfold lookV at l1 l2 l3 l4
      simp only at l1 l2 l3 l4
      generalize (⟨(dataP t i).toArray⟩ : ByteArray) = ds at *
      have PR := Lib.hid (HUN.out _ pr)
      have L1 := Lib.hid l1
      have L2 := Lib.hid l2
      have L3 := Lib.hid l3
      have L4 := Lib.hid l4
      have L5 := Lib.hid l5
      have L6 := Lib.hid l6
      clear hl1 hl2 l1 l2 l3 l4 l5 l6 hk rv4 hKX hKY
      go_wp2_with (first
        | (go_at_call 13; (with_reducible refine L3.out.mono ?_); rintro e w' ⟨rfl, rfl⟩)
        | (go_at_call 13; (with_reducible refine L1.out.mono ?_); rintro e w' ⟨rfl, rfl⟩)
        | (go_at_call 51; (with_reducible refine L4.out.mono ?_); rintro e w' ⟨rfl, rfl⟩)
        | (go_at_call 51; (with_reducible refine L2.out.mono ?_); rintro e w' ⟨rfl, rfl⟩)
        | (go_at_call 25; refine L5.out.mono ?_; rintro e w' ⟨rfl, rfl⟩)
        | (go_at_call 52; refine L6.out.mono ?_; rintro e w' ⟨rfl, rfl⟩))
      go_ret
      exact ⟨ret_bool (by simp), PR.out⟩
end Go.Proofs.Ytnjfnjkpehgenaa
/- The walk of InodePlays. Written by wip/tools/genLR.py. -/
namespace Go.Proofs.Ytnjfnjkpehgenaa
open Go.RowKit Ino Go.Maps
set_option linter.unusedVariables false
set_option linter.unusedSimpArgs false

/-- behind k steps. -/
def playRel (w : World) (A C B : Nat) (iv : Value) (wr : World) : Prop := ∃ (k : Nat) (t : T), iv = .int .i64 k ∧ k ≤ 120 ∧ TW (KB w) w wr A C B t t ∧ Sound t ∧ HB k t
/-- j inodes were looked at. -/
def asRel (K : Nat → Prop) (w1 : World) (A C B : Nat) (t : T) (kv : Value) (wx : World) : Prop := ∃ j : Nat, kv = .int .i64 j ∧ j ≤ 15 ∧ TW K w1 wx A C B t t
theorem tops (w : World) (cs : Array Value) (t : TypeId) {j : Nat} {v : Value} (h : cs[j]? = some v) : (w.alloc (.cells cs t)).cell? ⟨w.heap.size, j, none⟩ = some v := by
  rw [cell_of_row _ w.heap.size j _ _ (0, 0) (heap_alloc_new w _)]
  exact h
theorem extract_size (s : ByteArray) (h : 5000 < s.size) : (s.extract 0 5000).size = 5000 := by
  simp [ByteArray.size_extract]; omega
theorem plays_none (m o : Int) (p0 : Option Addr) (n0 c0 : Nat) (w : World) (hm : wfI m) (hk : rOk m o o = false) :
    Calls Try.prog 3 #[.int .i64 m, .int .i64 o, .slice p0 n0 c0] w fun e w' => e = .returned (.bool true) ∧ Below w.heap.size w w' := by
  go_enter Try.func3, Try.ntmps3
  go_wp2_with (first
    | (go_at_call 7; refine (shown_any _).mono ?_; rintro e w1 ⟨rfl, b1⟩)
    | (go_at_call 8; refine (pnew_none m o o hm hk w1).mono ?_; rintro e w2 ⟨rfl, b2⟩)
    | (go_at_call 9; refine (new_none m o w2 hk).mono ?_; rintro e w3 ⟨rfl, rfl⟩))
  go_ret
  exact ⟨ret_bool (by simp), b1.trans (b2.mono b1.size)⟩
set_option maxHeartbeats 8000000 in
set_option maxRecDepth 100000 in
theorem plays_some (m o : Int) (p0 : Option Addr) (n0 c0 : Nat) (z0 : List Op6) (w : World) (hm : wfI m) (hk : rOk m o o = true) (h0 : InOps w p0 n0 z0) (l0 : n0 ≤ maxLen) :
    Calls Try.prog 3 #[.int .i64 m, .int .i64 o, .slice p0 n0 c0] w fun e w' => e = .returned (.bool true) ∧ Below w.heap.size w w' := by
  have hk3 : rMode m = true ∧ rId o = true := by
    unfold rOk at hk
    simp only [Bool.and_eq_true] at hk
    exact ⟨hk.1, hk.2.1⟩
  have H0 := Lib.hid h0
  unfold maxLen at l0
  clear h0
  go_enter Try.func3, Try.ntmps3
  go_wp2_with (first
    | (go_at_call 7; refine (shown_any _).mono ?_; rintro e w1 ⟨rfl, b1⟩)
    | (go_at_call 8; refine (ps_new b1 m o o hm hk).mono ?_; rintro e w2 ⟨A, rfl, p2⟩)
    | (go_at_call 9; refine (td_new m o o p2 hk3.1 hk3.2 hk3.2).mono ?_; rintro e w3 ⟨C, B, rfl, p3⟩))
  clear b1 p2
  go_loopw [10] (fun iv wr => playRel w A C B iv wr) (fun iv _ => 120 - (intOf iv).toNat)
  case atStart => exact ⟨0, _, rfl, by decide, p3, sound_new m o o, HB.new _ _ _⟩
  case round =>
    obtain ⟨k, t, rfl, hk, hp, hso, hhb⟩ := hrel
    by_cases hlt : k < n0 ∧ k < 120
    · obtain ⟨k0, k2⟩ := hlt
      have hz0 : z0[k]? = some (z0[k]'(by rw [H0.out.1]; exact k0)) := List.getElem?_eq_getElem _
      obtain ⟨ok, g0, o0, rfl, hc⟩ := H0.out.2 k _ hz0
      generalize z0[k]'(by rw [H0.out.1]; exact k0) = z at hz0 ok hc
      have hg : g0 < w.heap.size := cell_lt (hc 0 _ rfl)
      have e0 : wr.cell? ⟨g0, o0 + k * 7, none⟩ = some (.int .i64 z.kind) := hp.cell hg (hc 0 _ rfl)
      have e1 : wr.cell? ⟨g0, o0 + k * 7 + 1, none⟩ = some (.int .i64 z.a) := hp.cell hg (hc 1 _ rfl)
      have e2 : wr.cell? ⟨g0, o0 + k * 7 + 2, none⟩ = some (.int .i64 z.b) := hp.cell hg (hc 2 _ rfl)
      have e3 : wr.cell? ⟨g0, o0 + k * 7 + 3, none⟩ = some (.int .i64 z.c) := hp.cell hg (hc 3 _ rfl)
      have e4 : wr.cell? ⟨g0, o0 + k * 7 + 4, none⟩ = some (.int .i64 z.d) := hp.cell hg (hc 4 _ rfl)
      have e5 : wr.cell? ⟨g0, o0 + k * 7 + 5, none⟩ = some (.string z.s) := hp.cell hg (hc 5 _ rfl)
      have e6 : wr.cell? ⟨g0, o0 + k * 7 + 6, none⟩ = some (.string z.t) := hp.cell hg (hc 6 _ rfl)
      have i1 : (0 : Int) ≤ (k : Int) := by omega
      have i2 : (k : Int) < n0 := by omega
      have HSO := Lib.hid hso
      have HHB := Lib.hid hhb
      clear hz0 hso hhb hc p3
      obtain ⟨kd, za, zb, zc, zd, zs, zt⟩ := z
      simp only at e0 e1 e2 e3 e4 e5 e6
      have hsok : zs.size ≤ maxLen := ok.s
      unfold maxLen at hsok
      by_cases hsz : zs.size ≤ 5000
      · have i3 : ¬ (5000 < (zs.size : Int)) := by omega
        go_wp2_with fail
        obtain ⟨w1, hw1⟩ : ∃ w1, w1 = wr.alloc (opObj ⟨kd, za, zb, zc, zd, zs, zt⟩) := ⟨_, rfl⟩
        have hbl : Below wr.heap.size wr w1 := by rw [hw1]; exact (Below.refl _ wr).alloc (Nat.le_refl _) _
        have hG1 : w1.heap.size = wr.heap.size + 1 := by rw [hw1]; simp
        have q1 : w1.cell? ⟨wr.heap.size, 1, none⟩ = some (.int .i64 za) := by rw [hw1]; exact op_cell wr _ 1 rfl
        have q5 : w1.cell? ⟨wr.heap.size, 5, none⟩ = some (.string zs) := by rw [hw1]; exact op_cell wr _ 5 rfl
        have q6 : w1.cell? ⟨wr.heap.size, 6, none⟩ = some (.string zt) := by rw [hw1]; exact op_cell wr _ 6 rfl
        unfold opObj at hw1
        simp only at hw1
        rw [← hw1]
        have h1 := hp.rebase hbl
        have hK : KN (KB w) wr w1 wr.heap.size := .inr ⟨Nat.le_refl _, by omega⟩
        have HUN := Lib.hid (fun w' u (h' : TW (KN (KB w) wr w1) w1 w' A C B u u) => h'.unbase hp hbl)
        clear hw1 hp hbl hG1
        generalize wr.heap.size = G at *
        generalize KN (KB w) wr w1 = K1 at *
        have HD := Lib.hid (does6_any ⟨kd, za, zb, zc, zd, zs, zt⟩ ok (by show zs.size ≤ 1000000; omega) h1 HSO.out (fun j => Nat.le_trans (HHB.out j) (by omega)))
        have HS := Lib.hid (Op6.sound ⟨kd, za, zb, zc, zd, zs, zt⟩ HSO.out)
        have HH := Lib.hid (Op6.hb ⟨kd, za, zb, zc, zd, zs, zt⟩ HHB.out)
        clear h1 HSO HHB
        generalize Op6.step ⟨kd, za, zb, zc, zd, zs, zt⟩ t = t' at *
        have hss : zs.size ≤ maxLen := ok.s
        have htt : zt.size ≤ maxLen := ok.t
        clear ok
        go_wp2_with (first
          | (go_at_call 10; refine HD.out.mono ?_; rintro e w4 ⟨rfl, p4⟩))
        go_loopw [13] (fun kv wx => asRel K1 w1 A C B t' kv wx) (fun kv _ => 15 - (intOf kv).toNat)
        case atStart => exact ⟨0, rfl, by decide, p4⟩
        case round =>
          obtain ⟨j, rfl, hj, p5⟩ := hrel
          clear p4
          by_cases hjn : j < 15
          · have c5 := p5.cell hK q5
            have HA := Lib.hid (as6_any p5 HS.out j zs hss)
            have i4 : (j : Int) ≤ 14 := by omega
            clear p5
            go_wp2_with (first
              | (go_at_call 11; refine HA.out.mono ?_; rintro e w6 ⟨rfl, p6⟩))
            go_roundw
            case rel => exact ⟨j + 1, by go_num, by omega, p6⟩
            case measure => simp [intOf]; omega
          · have c1 := p5.cell hK q1
            have c6 := p5.cell hK q6
            have HA := Lib.hid (as6_any p5 HS.out za zt htt)
            have i4 : ¬ (j : Int) ≤ 14 := by omega
            clear p5
            go_wp2_with (first
              | (go_at_call 11; refine HA.out.mono ?_; rintro e w6 ⟨rfl, p6⟩))
            go_roundw
            case rel => exact ⟨k + 1, t', by go_num, by omega, HUN.out _ _ p6, HS.out, HH.out⟩
            case measure => simp [intOf]; omega
      · have i3 : (5000 < (zs.size : Int)) := by omega
        go_wp2_with fail
        have hss2 : (zs.extract 0 5000).size ≤ 5000 := by rw [extract_size zs (by omega)]; omega
        have ok : Op6.Ok ⟨kd, za, zb, zc, zd, zs.extract 0 5000, zt⟩ := ⟨ok.kind, ok.a, ok.b, ok.c, ok.d, by show (zs.extract 0 5000).size ≤ maxLen; unfold maxLen; omega, ok.t⟩
        generalize zs.extract 0 5000 = zs2 at *
        obtain ⟨w1, hw1⟩ : ∃ w1, w1 = wr.alloc (opObj ⟨kd, za, zb, zc, zd, zs2, zt⟩) := ⟨_, rfl⟩
        have hbl : Below wr.heap.size wr w1 := by rw [hw1]; exact (Below.refl _ wr).alloc (Nat.le_refl _) _
        have hG1 : w1.heap.size = wr.heap.size + 1 := by rw [hw1]; simp
        have q1 : w1.cell? ⟨wr.heap.size, 1, none⟩ = some (.int .i64 za) := by rw [hw1]; exact op_cell wr _ 1 rfl
        have q5 : w1.cell? ⟨wr.heap.size, 5, none⟩ = some (.string zs2) := by rw [hw1]; exact op_cell wr _ 5 rfl
        have q6 : w1.cell? ⟨wr.heap.size, 6, none⟩ = some (.string zt) := by rw [hw1]; exact op_cell wr _ 6 rfl
        unfold opObj at hw1
        simp only at hw1
        rw [← hw1]
        have h1 := hp.rebase hbl
        have hK : KN (KB w) wr w1 wr.heap.size := .inr ⟨Nat.le_refl _, by omega⟩
        have HUN := Lib.hid (fun w' u (h' : TW (KN (KB w) wr w1) w1 w' A C B u u) => h'.unbase hp hbl)
        clear hw1 hp hbl hG1
        generalize wr.heap.size = G at *
        generalize KN (KB w) wr w1 = K1 at *
        have HD := Lib.hid (does6_any ⟨kd, za, zb, zc, zd, zs2, zt⟩ ok (by show zs2.size ≤ 1000000; omega) h1 HSO.out (fun j => Nat.le_trans (HHB.out j) (by omega)))
        have HS := Lib.hid (Op6.sound ⟨kd, za, zb, zc, zd, zs2, zt⟩ HSO.out)
        have HH := Lib.hid (Op6.hb ⟨kd, za, zb, zc, zd, zs2, zt⟩ HHB.out)
        clear h1 HSO HHB
        generalize Op6.step ⟨kd, za, zb, zc, zd, zs2, zt⟩ t = t' at *
        have hss : zs2.size ≤ maxLen := ok.s
        have htt : zt.size ≤ maxLen := ok.t
        clear ok
        go_wp2_with (first
          | (go_at_call 10; refine HD.out.mono ?_; rintro e w4 ⟨rfl, p4⟩))
        go_loopw [13] (fun kv wx => asRel K1 w1 A C B t' kv wx) (fun kv _ => 15 - (intOf kv).toNat)
        case atStart => exact ⟨0, rfl, by decide, p4⟩
        case round =>
          obtain ⟨j, rfl, hj, p5⟩ := hrel
          clear p4
          by_cases hjn : j < 15
          · have c5 := p5.cell hK q5
            have HA := Lib.hid (as6_any p5 HS.out j zs2 hss)
            have i4 : (j : Int) ≤ 14 := by omega
            clear p5
            go_wp2_with (first
              | (go_at_call 11; refine HA.out.mono ?_; rintro e w6 ⟨rfl, p6⟩))
            go_roundw
            case rel => exact ⟨j + 1, by go_num, by omega, p6⟩
            case measure => simp [intOf]; omega
          · have c1 := p5.cell hK q1
            have c6 := p5.cell hK q6
            have HA := Lib.hid (as6_any p5 HS.out za zt htt)
            have i4 : ¬ (j : Int) ≤ 14 := by omega
            clear p5
            go_wp2_with (first
              | (go_at_call 11; refine HA.out.mono ?_; rintro e w6 ⟨rfl, p6⟩))
            go_roundw
            case rel => exact ⟨k + 1, t', by go_num, by omega, HUN.out _ _ p6, HS.out, HH.out⟩
            case measure => simp [intOf]; omega
    · have HSO := Lib.hid hso
      have HHB := Lib.hid hhb
      have HP := Lib.hid hp.below
      clear hso hhb hp p3
      by_cases hk0 : k < n0
      · have hk1 : ¬ k < 120 := fun h => hlt ⟨hk0, h⟩
        go_wp2_with fail
        go_ret
        exact ⟨rfl, HP.out⟩
      · go_wp2_with fail
        go_ret
        exact ⟨rfl, HP.out⟩
theorem plays_walk (m o : Int) (p0 : Option Addr) (n0 c0 : Nat) (z0 : List Op6) (w : World) (hm : (Lit.int .i64 m).wf) (ho : (Lit.int .i64 o).wf) (h0 : InOps w p0 n0 z0) (l0 : n0 ≤ maxLen) :
    Calls Try.prog 3 #[.int .i64 m, .int .i64 o, .slice p0 n0 c0] w fun e w' => e = .returned (.bool true) ∧ Below w.heap.size w w' := by
  cases hk : rOk m o o
  · exact plays_none m o p0 n0 c0 w (int_wf2 hm) hk
  · exact plays_some m o p0 n0 c0 z0 w (int_wf2 hm) hk h0 l0
end Go.Proofs.Ytnjfnjkpehgenaa
