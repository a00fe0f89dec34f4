/- The walk of the law PathJoins. -/
import Derived.Test.YtiiomflffnmhnaaDoorX3
import Derived.Test.YtiiomflffnmhnaaDoorS5
import Derived.Deep.RegionHeld3
import Derived.Deep.AppendLies
import Derived.Deep.DrawnRows
namespace Go.Proofs.YtiiomflffnmhnaaDoor
open Go.RowKit Go.Shelf
attribute [local go_sem ↓] Go.wp_at_zero Go.wp_at_succ

theorem bcell {W w1 : World} (hb : Below W.heap.size W w1) : (∀ b o, b < W.heap.size → w1.cell? ⟨b, o, none⟩ = W.cell? ⟨b, o, none⟩) ∧ (∀ b o, b < W.heap.size → w1.frozen? ⟨b, o, none⟩ = W.frozen? ⟨b, o, none⟩) :=
  ⟨fun b o h => hb.cell (p := ⟨b, o, none⟩) h, fun b o h => hb.frozen (p := ⟨b, o, none⟩) h⟩
theorem add_zero (g j : Nat) : (⟨g, 0, none⟩ : Addr).add j = ⟨g, j, none⟩ := by unfold Addr.add; split <;> simp_all
theorem append_zero (g : Nat) (p : Option Addr) (c : Nat) (w : World) : (Builtin.append_ #[23, 23] 23 #[.slice (some ⟨g, 0, none⟩) 0 0, .slice p 0 c]).run Tryd.prog w = .ok (.slice (some ⟨g, 0, none⟩) 0 0) w := by
  obtain ⟨i0, hi, hz0, hz1, hz2⟩ := info_parts Tryd.info9
  cases p with
  | none => simp [Builtin.append_, run_underlying Tryd.underlying23, sizeOf, typeInfo, hi, Builtin.lenOf, Builtin.firstCells, storeCells]
  | some a => simp [Builtin.append_, run_underlying Tryd.underlying23, sizeOf, typeInfo, hi, Builtin.lenOf, Builtin.firstCells, storeCells, loadCells, loadCellsFrom]
/-- an append of nothing, as a step of a region. -/
theorem step_append_zero {ops : Array Oper} {o : Oper} {a : Act} {K : Act → World → Prop} {Q : Exit → Act → World → Prop} {E : Prop} {w : World} (hgd : o.guard = none) (s x : Operand)
    (ho : o.op = .call { callee := .builtin .append, args := #[s, x], argTypes := #[23, 23] }) (hty : o.type = 23) (g : Nat) (hs : a.eval s = .slice (some ⟨g, 0, none⟩) 0 0) (p : Option Addr) (c : Nat) (hx : a.eval x = .slice p 0 c)
    (h : K (a.put o.dst (.slice (some ⟨g, 0, none⟩) 0 0)) w) : if Region.wanted o (yielded ops a.tmps) = true then Oper.wp Tryd.prog o a w K Q else E := by
  have hw : Region.wanted o (yielded ops a.tmps) = true := by simp [Region.wanted, hgd]
  rw [if_pos hw]
  have hrun := append_zero g p c w
  unfold Oper.wp execOp
  simp only [ho, hty, resolve, invoke, builtin, Sem.run_bind, Sem.run_pure, Result.andThen_ok, List.map_toArray, List.map_cons, List.map_nil, hs, hx, hrun]
  exact h
/-- cells from an address on. -/
def News (W : World) (g : Nat) (news : List Value) : Prop := ∀ j u, news[j]? = some u → W.cell? ((⟨g, 0, none⟩ : Addr).add j) = some u
theorem News.lt {W : World} {g : Nat} {news : List Value} (h : News W g news) (h0 : 0 < news.length) : g < W.heap.size := by
  have := h 0 _ (List.getElem?_eq_getElem h0)
  rw [add_zero] at this
  exact cell_lt this
theorem News.below {W W' : World} {g n : Nat} {news : List Value} (h : News W g news) (hb : Below n W W') (hg : g < n) : News W' g news := fun j u hu => by
  have := h j u hu
  rw [add_zero] at this ⊢
  exact (hb.cell (p := ⟨g, j, none⟩) hg).trans this
theorem News.alloc {W : World} {g : Nat} {news : List Value} (h : News W g news) (o : Obj) : News (W.alloc o) g news := fun j u hu => by
  have := h j u hu
  rw [add_zero] at this ⊢
  exact (World.grownBy_alloc W o none).cell_far ⟨g, j, none⟩ (cell_lt this) (by simp) ▸ this
theorem News.drew {W : World} {g : Nat} {news : List Value} (h : News W g news) : News W.drew g news := h
theorem News.grown {W W' : World} {g : Nat} {row : Option Nat} {news : List Value} (h : News W g news) (hg : W.grownBy W' row) (hne : some g ≠ row) : News W' g news := fun j u hu => by
  have h2 := h j u hu
  rw [add_zero] at h2 ⊢
  rw [hg.cell_far ⟨g, j, none⟩ (cell_lt h2) hne]; exact h2
theorem Rd.of_own {w : World} {base : Nat} {v : Value} {k : Nat} {xs : List Value} {l : List (List UInt8)} (h : w.ownsRow base 9 1 v k xs) (hk : l.length = k) (hx : l.map strV = xs) : Rd w v l := by
  subst hk hx; exact Rd.of_row h
theorem News.one (W : World) (v : Value) : News (W.alloc (.cells #[v] 9)) W.heap.size [v] := World.news_of_block (cs := #[v]) (t := 9) (fr := (0, 0)) (heap_alloc_new W _)
theorem one_strs (ns : List (List UInt8)) : ∀ u ∈ ns.map strV, u.oneCell' = true := by
  intro u hu; obtain ⟨x, _, rfl⟩ := List.mem_map.1 hu; rfl
theorem made2 (W : World) (o : Obj) : ((W.alloc o).alloc (.cells #[] 9)).ownsRow W.heap.size 9 1 (.slice (some ⟨W.heap.size + 1, 0, none⟩) 0 0) 0 [] := by
  have := World.ownsRow_made (base := W.heap.size) (e := 9) (size := 1) (W.alloc o) #[] 0 (by simp) (by decide) rfl
  rw [World.size_alloc] at this
  exact this
theorem News.one2 (W : World) (v : Value) : News ((W.alloc (.cells #[] 9)).alloc (.cells #[v] 9)) (W.heap.size + 1) [v] := by
  have := News.one (W.alloc (.cells #[] 9)) v
  rw [World.size_alloc] at this
  exact this
/-- what a slice of texts reads as, for an append. -/
theorem Rd.news {W : World} {p : Option Addr} {n cap : Nat} {ns : List (List UInt8)} (h : Rd W (.slice p n cap) ns) (h0 : 0 < n) :
    ∃ g, p = some ⟨g, 0, none⟩ ∧ g < W.heap.size ∧ ns.length = n ∧ ∀ j u, (ns.map strV)[j]? = some u → W.cell? ((⟨g, 0, none⟩ : Addr).add j) = some u := by
  obtain ⟨p', cap', hv, h1, h2, h3⟩ := h
  cases hv
  obtain ⟨g, hg, hc⟩ := h3 0 ns[0] (List.getElem?_eq_getElem h0)
  refine ⟨g, hg, cell_lt hc, rfl, fun j u hu => ?_⟩
  rw [List.getElem?_map] at hu
  cases hj : ns[j]? with
  | none => rw [hj] at hu; cases hu
  | some x =>
    rw [hj] at hu
    obtain ⟨g', hg', hc'⟩ := h3 j x hj
    rw [hg] at hg'
    cases hg'
    rw [add_zero, hc']; exact hu
set_option maxHeartbeats 3000000 in
theorem joins_walk (s t : ByteArray) (hs : s.size ≤ 140737488351232) (ht : t.size ≤ 140737488351232) (w : World) :
    Calls Tryd.prog 5 #[.string s, .string t] w fun e w' => e = .returned (.bool true) ∧ Below w.heap.size w w' := by
  have hm : s.size ≤ maxLen := by unfold maxLen; omega
  obtain ⟨k, hk⟩ : ∃ k, splE s.data.toList = k := ⟨_, rfl⟩
  obtain ⟨ns, hns⟩ : ∃ ns, splN s.data.toList = ns := ⟨_, rfl⟩
  obtain ⟨n, hn⟩ : ∃ n, ns.length = n := ⟨_, rfl⟩
  obtain ⟨a, ha⟩ : ∃ a, splAbs s.data.toList = a := ⟨_, rfl⟩
  obtain ⟨d, hd⟩ : ∃ d, splDir s.data.toList = d := ⟨_, rfl⟩
  obtain ⟨nb, hnb⟩ : ∃ nb, nameB t.data.toList = nb := ⟨_, rfl⟩
  have H1 := Lib.hid (fun w : World => split_of s hm k ns a d n hk hns hn ha hd w)
  have Hnb := Lib.hid hnb
  by_cases hk0 : k = 0
  · subst hk0
    have hE := E_zero_inv hk
    cases nb
    · clear hk hns hn ha hd hnb hE
      go_enter Tryd.func5, Tryd.ntmps5
      go_wp2_with (first | (go_at_call 10; refine (shown_any _).mono ?_; rintro e w' ⟨rfl, hb0⟩) | (go_at_call 12; refine (H1.out _).mono ?_; rintro e w1 ⟨p, cap, rfl, hr, hb1⟩) | (go_at_call 16; refine (name_any t _).mono ?_; rintro e w' ⟨rfl, rfl⟩; rw [Hnb.out]))
      go_ret
      exact ⟨rfl, (hb0.trans (hb1.mono hb0.size)).alloc (Nat.le_trans hb0.size hb1.size) _⟩
    · obtain ⟨j, hj⟩ : ∃ j : ByteArray, strV (joinS s.data.toList t.data.toList) = .string j := ⟨_, rfl⟩
      have hjl : j.data.toList = joinS s.data.toList t.data.toList := by
        have := Value.string.inj hj
        rw [← this]
      have Hj := Lib.hid hj
      by_cases hlen : 128 < j.size
      · have hjm : j.size ≤ maxLen := by
          have h1 := name_parts hnb
          have h2 := join_len (l := s.data.toList) (n := t.data.toList) hE.1
          rw [← hjl, size_len, size_len, size_len] at h2
          rw [size_len] at h1
          unfold maxLen; omega
        have hEj : splE j.data.toList = 10 := by
          unfold splE
          rw [if_neg (fun e => by rw [e] at hjl; have := size_len j; rw [e] at this; simp at this; omega), if_pos (by rw [size_len]; exact hlen)]
        obtain ⟨e1, e2, e3⟩ := err_all hEj (by decide)
        have H2 := Lib.hid (fun w : World => split_of j hjm 10 [] false false 0 hEj e1 rfl e2 e3 w)
        clear hk hns hn ha hd hnb hE hj hjl hEj e1 e2 e3
        go_enter Tryd.func5, Tryd.ntmps5
        go_wp2_with (first | (go_at_call 10; refine (shown_any _).mono ?_; rintro e w' ⟨rfl, hb0⟩) | (go_at_call 12; (with_reducible refine (H1.out _).mono ?_); rintro e w1 ⟨p, cap, rfl, hr, hb1⟩) | (go_at_call 12; (with_reducible refine (H2.out _).mono ?_); rintro e w2 ⟨p2, cap2, rfl, hr2, hb2⟩) | (go_at_call 16; refine (name_any t _).mono ?_; rintro e w' ⟨rfl, rfl⟩; rw [Hnb.out]) | (go_at_call 18; refine (join_any s t hs ht _).mono ?_; rintro e w' ⟨rfl, rfl⟩; rw [Hj.out]))
        go_ret
        refine ⟨rfl, ?_⟩
        have A1 := (hb0.trans (hb1.mono hb0.size)).alloc (Nat.le_trans hb0.size hb1.size) (.cells #[.bool a, .slice p n cap, .bool d] 29)
        exact (A1.trans (hb2.mono A1.size)).alloc (Nat.le_trans A1.size hb2.size) _
      · have hj128 : j.data.toList.length ≤ 128 := by rw [size_len]; omega
        rw [hjl] at hj128
        obtain ⟨g1, g2, g3, g4⟩ := join_all hk hnb hj128
        have g5 := join_base hE.1 hnb
        rw [← hjl] at g1 g2 g3 g4 g5
        have hjm : j.size ≤ maxLen := by unfold maxLen; omega
        have hj4 : j.size < 4611686018427387904 := by omega
        have H2 := Lib.hid (fun w : World => split_of j hjm 0 (ns ++ [t.data.toList]) a false (n + 1) g1 (by rw [g2, hns]) (by rw [List.length_append, hn]; rfl) (by rw [g3, ha]) g4 w)
        obtain ⟨u, hu⟩ : ∃ u : ByteArray, (⟨(baseS j.data.toList).1.toArray⟩ : ByteArray) = u := ⟨_, rfl⟩
        have H3 := Lib.hid (show baseV j.data.toList = .tuple #[.string u, .string t] by unfold baseV; rw [hu, g5, Lib.mk_data])
        have hn64 : n ≤ 129 := by
          have h1 := len_nam s.data.toList
          have h2 := (ok_all hk).1
          rw [hns] at h2
          rw [← h2, hn] at h1
          omega
        have Hn := Lib.hid hn
        have Hns2 := Lib.hid (show (ns ++ [t.data.toList]).length = n + 1 by rw [List.length_append, hn]; rfl)
        have httr : t.data.toList = t.toList := (ByteArray.toList_eq t).symm
        clear hk hns hn ha hd hnb hE hj hjl hj128 g1 g2 g3 g4 g5 hu httr
        obtain ⟨i0, hi, hz0, hz1, hz2⟩ := info_parts Tryd.info9
        go_enter Tryd.func5, Tryd.ntmps5
        go_wp2_with (first | (go_at_call 10; refine (shown_any _).mono ?_; rintro e w' ⟨rfl, hb0⟩) | (go_at_call 12; (with_reducible refine (H1.out _).mono ?_); rintro e w1 ⟨p, cap, rfl, hr, hb1⟩) | (go_at_call 12; (with_reducible refine (H2.out _).mono ?_); rintro e w2 ⟨p2, cap2, rfl, hr2, hb2⟩) | (go_at_call 16; refine (name_any t _).mono ?_; rintro e w' ⟨rfl, rfl⟩; rw [Hnb.out]) | (go_at_call 18; refine (join_any s t hs ht _).mono ?_; rintro e w' ⟨rfl, rfl⟩; rw [Hj.out]))
        have A1 := (hb0.trans (hb1.mono hb0.size)).alloc (Nat.le_trans hb0.size hb1.size) (.cells #[.bool a, .slice p n cap, .bool d] 29)
        have A2 := (A1.trans (hb2.mono A1.size)).alloc (Nat.le_trans A1.size hb2.size) (.cells #[.bool a, .slice p2 (n + 1) cap2, .bool false] 29)
        have b1 : Blk (w2.alloc (.cells #[.bool a, .slice p2 (n + 1) cap2, .bool false] 29)) w1.heap.size 29 #[.bool a, .slice p n cap, .bool d] :=
          ((Blk.new w1 29 _).below hb2 (by simp)).alloc _
        have b2 := Blk.new w2 29 #[.bool a, .slice p2 (n + 1) cap2, .bool false]
        have r1 : Rd (w2.alloc (.cells #[.bool a, .slice p2 (n + 1) cap2, .bool false] 29)) (.slice p n cap) ns := by
          have hrr := hr.out
          rw [← Hn.out] at hrr ⊢
          exact (((Rd.of_row hrr).below ((Below.refl _ _).alloc (Nat.le_refl _) _)).below hb2).below ((Below.refl _ _).alloc (Nat.le_refl _) _)
        have r2 : Rd (w2.alloc (.cells #[.bool a, .slice p2 (n + 1) cap2, .bool false] 29)) (.slice p2 (n + 1) cap2) (ns ++ [t.data.toList]) := by
          have hrr := hr2.out
          rw [← Hns2.out] at hrr ⊢
          exact (Rd.of_row hrr).below ((Below.refl _ _).alloc (Nat.le_refl _) _)
        have l1 : w1.heap.size < (w2.alloc (.cells #[.bool a, .slice p2 (n + 1) cap2, .bool false] 29)).heap.size := b1.lt
        have l2 : w2.heap.size < (w2.alloc (.cells #[.bool a, .slice p2 (n + 1) cap2, .bool false] 29)).heap.size := b2.lt
        obtain ⟨P1, hP1⟩ : ∃ P1, w1.heap.size = P1 := ⟨_, rfl⟩
        obtain ⟨P2, hP2⟩ : ∃ P2, w2.heap.size = P2 := ⟨_, rfl⟩
        rw [hP1] at b1 l1 ⊢
        rw [hP2] at b2 l2 ⊢
        clear hb0 hb1 hb2 hr hr2 A1 hP1 hP2
        generalize w2.alloc (.cells #[.bool a, .slice p2 (n + 1) cap2, .bool false] 29) = W at *
        have c1 := b1.cell 1
        have c2 := b2.cell 1
        simp only [List.getElem?_toArray, List.getElem?_cons_zero, List.getElem?_cons_succ] at c1 c2
        by_cases hn0 : 0 < n
        · obtain ⟨gp, rfl, hgp, hnl, hnews⟩ := r1.news hn0
          have HN := Lib.hid (show News W gp (ns.map strV) from hnews)
          clear hnews
          have hl64 : (ns.map strV).length = n * 1 := by rw [List.length_map, hnl, Nat.mul_one]
          have HL := Lib.hid hl64
          clear hl64 hnl
          go_region_held3 (fun w' => w'.cell? ⟨P1, 1, none⟩ = some (.slice (some ⟨gp, 0, none⟩) n cap) ∧ w'.cell? ⟨P2, 1, none⟩ = some (.slice p2 (n + 1) cap2))
            (first
              | go_keep
              | (go_split_ands; exact ⟨(hB3.cell (p := ⟨P1, 1, none⟩) l1).trans c1, (hB3.cell (p := ⟨P2, 1, none⟩) l2).trans c2⟩)
              | (go_split_ands; exact ⟨(hB5.cell (p := ⟨P1, 1, none⟩) l1).trans c1, (hB5.cell (p := ⟨P2, 1, none⟩) l2).trans c2⟩))
            (first
              | (refine step_append_lies _ (by rfl) _ _ _ (by rfl) W.heap.size 9 i0 (.string ByteArray.empty) 1 16 Tryd.underlying23 hi hz0 hz1 hz2 (by rfl) (by decide) _ 0 [] (by rfl) ((World.ownsRow_made W #[] 0 (Nat.le_refl _) (by decide) rfl).drew)
                  ⟨gp, 0, none⟩ n cap (ns.map strV) (by rfl) HL.out ((HN.out.alloc _).drew) (one_strs ns) hn0 (by unfold maxLen; omega) (by omega) (by simp; try omega) (W.heap.size + 1) (by simp) ?_
                 intro g3 cap3 w3 hown3 hgrow3 hat3 hlt3
                 simp only [Nat.zero_add, List.nil_append] at hown3 ⊢
                 have hB3 : Below W.heap.size W w3 := ((Below.refl _ W).alloc (Nat.le_refl _) _).drew.grown hgrow3 (by simp; try omega) (fun k e => by cases e; simp))
              | (refine step_append_lies _ (by rfl) _ _ _ (by rfl) W.heap.size 9 i0 (.string ByteArray.empty) 1 16 Tryd.underlying23 hi hz0 hz1 hz2 (by rfl) (by decide) _ 0 [] (by rfl) (((World.ownsRow_made W #[] 0 (Nat.le_refl _) (by decide) rfl).alloc _).drew)
                  ⟨gp, 0, none⟩ n cap (ns.map strV) (by rfl) HL.out (((HN.out.alloc _).alloc _).drew) (one_strs ns) hn0 (by unfold maxLen; omega) (by omega) (by simp; try omega) (W.heap.size + 1 + 1) (by simp) ?_
                 intro g3 cap3 w3 hown3 hgrow3 hat3 hlt3
                 simp only [Nat.zero_add, List.nil_append] at hown3 ⊢
                 have hB3 : Below W.heap.size W w3 := (((Below.refl _ W).alloc (Nat.le_refl _) _).alloc (by simp) _).drew.grown hgrow3 (by simp; try omega) (fun k e => by cases e; simp)
                 have hN3 : News w3 (W.heap.size + 1) [.string t] := ((News.one2 W (.string t)).drew).grown hgrow3 (by simp [Value.ownBlock]))
              | (refine step_append_lies _ (by rfl) _ _ _ (by rfl) W.heap.size 9 i0 (.string ByteArray.empty) 1 16 Tryd.underlying23 hi hz0 hz1 hz2 (by rfl) (by decide) _ 0 [] (by rfl) ((made2 W (.cells #[.string t] 9)).drew)
                  ⟨gp, 0, none⟩ n cap (ns.map strV) (by rfl) HL.out (((HN.out.alloc _).alloc _).drew) (one_strs ns) hn0 (by unfold maxLen; omega) (by omega) (by simp; try omega) (W.heap.size + 1 + 1) (by simp) ?_
                 intro g3 cap3 w3 hown3 hgrow3 hat3 hlt3
                 simp only [Nat.zero_add, List.nil_append] at hown3 ⊢
                 have hB3 : Below W.heap.size W w3 := (((Below.refl _ W).alloc (Nat.le_refl _) _).alloc (by simp) _).drew.grown hgrow3 (by simp; try omega) (fun k e => by cases e; simp)
                 have hN3 : News w3 W.heap.size [.string t] := (((News.one W (.string t)).alloc _).drew).grown hgrow3 (by simp [Value.ownBlock]))
              | (refine step_append_lies _ (by rfl) _ _ _ (by rfl) W.heap.size 9 i0 (.string ByteArray.empty) 1 16 Tryd.underlying23 hi hz0 hz1 hz2 (by rfl) (by decide) _ n (ns.map strV) (by rfl) (hown3.alloc _)
                  ⟨w3.heap.size, 0, none⟩ 1 1 [.string t] (by rfl) (by rfl) (News.one w3 _) (by simp [Value.oneCell']) (by decide) (by unfold maxLen; omega) (by omega) (by have := hB3.size; simp; omega) (w3.heap.size + 1) (by simp) ?_
                 intro g5 cap5 w5 hown5 hgrow5 hat5 hlt5
                 have hB5 : Below W.heap.size W w5 := (hB3.alloc hB3.size _).grown hgrow5 (by have := hB3.size; simp; omega) (fun k e => by cases e; exact (hown3.lt g3 rfl).1))
              | (refine step_append_lies _ (by rfl) _ _ _ (by rfl) W.heap.size 9 i0 (.string ByteArray.empty) 1 16 Tryd.underlying23 hi hz0 hz1 hz2 (by rfl) (by decide) _ n (ns.map strV) (by rfl) hown3
                  _ 1 1 [.string t] (by rfl) (by rfl) hN3 (by simp [Value.oneCell']) (by decide) (by unfold maxLen; omega) (by omega) hB3.size w3.heap.size rfl ?_
                 intro g5 cap5 w5 hown5 hgrow5 hat5 hlt5
                 have hB5 : Below W.heap.size W w5 := hB3.grown hgrow5 hB3.size (fun k e => by cases e; exact (hown3.lt g3 rfl).1))
              | (go_at_call 13
                 refine (same_any _ _ (ns ++ [t.data.toList]) (ns ++ [t.data.toList]) _ (r2.below hB5) (Rd.of_own hown5 Hns2.out (by rw [List.map_append]; rfl))).mono ?_
                 rintro e w6 ⟨rfl, nd, rfl⟩
                 rw [decide_eq_true rfl]))
          all_goals
            have d0 := (b1.below hB5 l1).cell 0
            have d1 := (b2.below hB5 l2).cell 0
            have d2 := (b2.below hB5 l2).cell 2
            simp only [List.getElem?_toArray, List.getElem?_cons_zero, List.getElem?_cons_succ] at d0 d1 d2
            go_wp2_with (go_at_call 14; refine (base_any j hj4 _).mono ?_; rintro e w' ⟨rfl, n9, rfl⟩; rw [H3.out])
            go_ret
            exact ⟨rfl, below_drewN (A2.trans (hB5.mono A2.size)) _⟩
        · obtain rfl : n = 0 := by omega
          obtain rfl : ns = [] := List.length_eq_zero_iff.1 Hn.out
          clear hn0
          simp only [Nat.zero_add] at c2 r2 b2 ⊢
          go_region_held3 (fun w' => w'.cell? ⟨P1, 1, none⟩ = some (.slice p 0 cap) ∧ w'.cell? ⟨P2, 1, none⟩ = some (.slice p2 1 cap2))
            (first
              | go_keep
              | (go_split_ands; exact ⟨(hB5.cell (p := ⟨P1, 1, none⟩) l1).trans c1, (hB5.cell (p := ⟨P2, 1, none⟩) l2).trans c2⟩))
            (first
              | (refine step_append_zero (by rfl) _ _ (by rfl) (by rfl) _ (by rfl) p cap (by rfl) ?_)
              | (refine step_append_lies _ (by rfl) _ _ _ (by rfl) W.heap.size 9 i0 (.string ByteArray.empty) 1 16 Tryd.underlying23 hi hz0 hz1 hz2 (by rfl) (by decide) _ 0 [] (by rfl) (((World.ownsRow_made W #[] 0 (Nat.le_refl _) (by decide) rfl).alloc _).drew)
                  ⟨W.heap.size + 1, 0, none⟩ 1 1 [.string t] (by rfl) (by rfl) ((News.one2 W (.string t)).drew) (by simp [Value.oneCell']) (by decide) (by decide) (by decide) (by simp; try omega) (W.heap.size + 1 + 1) (by simp) ?_
                 intro g5 cap5 w5 hown5 hgrow5 hat5 hlt5
                 simp only [Nat.zero_add, List.nil_append] at hown5 ⊢
                 have hB5 : Below W.heap.size W w5 := (((Below.refl _ W).alloc (Nat.le_refl _) _).alloc (by simp) _).drew.grown hgrow5 (by simp; try omega) (fun k e => by cases e; simp))
              | (refine step_append_lies _ (by rfl) _ _ _ (by rfl) W.heap.size 9 i0 (.string ByteArray.empty) 1 16 Tryd.underlying23 hi hz0 hz1 hz2 (by rfl) (by decide) _ 0 [] (by rfl) ((made2 W (.cells #[.string t] 9)).drew)
                  ⟨W.heap.size, 0, none⟩ 1 1 [.string t] (by rfl) (by rfl) (((News.one W (.string t)).alloc _).drew) (by simp [Value.oneCell']) (by decide) (by decide) (by decide) (by simp; try omega) (W.heap.size + 1 + 1) (by simp) ?_
                 intro g5 cap5 w5 hown5 hgrow5 hat5 hlt5
                 simp only [Nat.zero_add, List.nil_append] at hown5 ⊢
                 have hB5 : Below W.heap.size W w5 := (((Below.refl _ W).alloc (Nat.le_refl _) _).alloc (by simp) _).drew.grown hgrow5 (by simp; try omega) (fun k e => by cases e; simp))
              | (go_at_call 13
                 refine (same_any _ _ ([] ++ [t.data.toList]) ([] ++ [t.data.toList]) _ (r2.below hB5) (Rd.of_own hown5 rfl rfl)).mono ?_
                 rintro e w6 ⟨rfl, nd, rfl⟩
                 rw [decide_eq_true rfl]))
          all_goals
            have d0 := (b1.below hB5 l1).cell 0
            have d1 := (b2.below hB5 l2).cell 0
            have d2 := (b2.below hB5 l2).cell 2
            simp only [List.getElem?_toArray, List.getElem?_cons_zero, List.getElem?_cons_succ] at d0 d1 d2
            go_wp2_with (go_at_call 14; refine (base_any j hj4 _).mono ?_; rintro e w' ⟨rfl, n9, rfl⟩; rw [H3.out])
            go_ret
            exact ⟨rfl, below_drewN (A2.trans (hB5.mono A2.size)) _⟩
  · have hkb := nat_ne k 0 hk0
    have hkb2 : (((k : Int) != 0) : Bool) = true := by rw [bne_iff_ne]; omega
    clear hk hns hn ha hd hnb
    go_enter Tryd.func5, Tryd.ntmps5
    go_wp2_with (first | (go_at_call 10; refine (shown_any _).mono ?_; rintro e w' ⟨rfl, hb0⟩) | (go_at_call 12; refine (H1.out _).mono ?_; rintro e w1 ⟨p, cap, rfl, hr, hb1⟩))
    go_ret
    exact ⟨rfl, (hb0.trans (hb1.mono hb0.size)).alloc (Nat.le_trans hb0.size hb1.size) _⟩
end Go.Proofs.YtiiomflffnmhnaaDoor
