/- Contract of userOf. -/
import Derived.Test.YtjopmchbphjliaaDoorL3
import Derived.Lib.AtoiAllCases
import Derived.BigRegion
namespace Go.Proofs.YtjopmchbphjliaaDoor
open Go.RowKit Go.Shelf

/-- what six parts give: a user, if it is right and the line is its own. -/
def userP (ps : List ByteArray) (line : List UInt8) : Option Usr :=
  match ps with
  | [a, b, c, d, e, f] =>
    match atoiO c.data.toList, atoiO d.data.toList with
    | some i, some g => if (rightU ⟨a, b, i, g, e, f⟩ && lineS ⟨a, b, i, g, e, f⟩ == line) = true then some ⟨a, b, i, g, e, f⟩ else none
    | _, _ => none
  | _ => none
def trimB (s : ByteArray) : ByteArray := ⟨(trimL s.data.toList).toArray⟩
def userS (s : ByteArray) : Option Usr := userP (partsB (trimB s)) s.data.toList
def optV (o : Option Usr) : Value := .tuple #[(o.getD noUsr).val, .bool o.isSome]
theorem spt_len (c : UInt8) (l : List UInt8) : ∀ p ∈ spt c l, p.length ≤ l.length := by
  induction l with
  | nil => intro p hp; simp [spt] at hp; subst hp; exact Nat.le_refl _
  | cons b r ih =>
    by_cases h : b = c
    · subst h
      rw [spt_eq]
      intro p hp
      rcases List.mem_cons.1 hp with rfl | hp
      · exact Nat.zero_le _
      · exact Nat.le_succ_of_le (ih p hp)
    · rw [spt_cons c b r h]
      intro p hp
      cases hs : spt c r with
      | nil => rw [hs] at hp; simp [glue] at hp; subst hp; simp
      | cons q qs =>
        rw [hs] at hp ih
        simp only [glue] at hp
        rcases List.mem_cons.1 hp with rfl | hp
        · have := ih q (by simp); simp; omega
        · exact Nat.le_succ_of_le (ih p (by simp [hp]))
theorem parts_size (t x : ByteArray) (h : x ∈ partsB t) : x.size ≤ t.size := by
  have : x.data.toList ∈ spt 58 t.data.toList := by rw [← partsB_data]; exact List.mem_map_of_mem h
  have := spt_len 58 _ _ this
  rw [size_len, size_len] at this; exact this
theorem trim_size (s : ByteArray) : (trimB s).size ≤ s.size := by
  rw [← size_len, ← size_len]
  show (Lib.trimSuffix s.data.toList [10]).length ≤ _
  unfold Lib.trimSuffix
  split
  · rw [List.length_take]; exact Nat.min_le_right _ _
  · exact Nat.le_refl _
theorem userOf_res (W : World) (B : Nat) (u : Usr) (b : Bool) (h : UBlk W B u) (tmps : Array Value) (h4 : tmps.getD 2 undef = .pointer (some ⟨B, 0, none⟩)) (h5 : tmps.getD 3 undef = .bool b) :
    (results Tryd.f37 tmps).run Tryd.prog W = .ok (.tuple #[u.val, .bool b]) W := by
  obtain ⟨c0, c1, c2, c3, c4, c5⟩ := h.at
  simp only [Array.getD_eq_getD_getElem?] at h4 h5
  simp only [results, Tryd.f37, Usr.val]
  simp [go_sem, h4, h5, c0, c1, c2, c3, c4, c5]
def zeroU : Obj := .cells #[.string ⟨#[]⟩, .string ⟨#[]⟩, .int .i64 0, .int .i64 0, .string ⟨#[]⟩, .string ⟨#[]⟩] 33
abbrev st0 (W : World) (B : Nat) : World := st6 W B (.string ⟨#[]⟩) (.string ⟨#[]⟩) (.int .i64 0) (.int .i64 0) (.string ⟨#[]⟩) (.string ⟨#[]⟩)
theorem userOf_zero {w W : World} {B : Nat} {s : ByteArray} (hr : userS s = none) (hu : UBlk W B noUsr) (hb : Below w.heap.size w W) (hB : w.heap.size ≤ B) (tmps : Array Value) (h4 : tmps.getD 2 undef = .pointer (some ⟨B, 0, none⟩)) (h5 : tmps.getD 3 undef = .bool false) :
    bodyPost Tryd.prog Tryd.f37 (fun e w' => e = .returned (optV (userS s)) ∧ Below w.heap.size w w') Exit.ret { tmps := tmps, defers := [] } (st0 W B) := by
  have hu3 : UBlk (st0 W B) B noUsr := st6_blk hu _ _ _ _ _ _
  have hb3 := hb.trans (st6_below W hB (.string ⟨#[]⟩) (.string ⟨#[]⟩) (.int .i64 0) (.int .i64 0) (.string ⟨#[]⟩) (.string ⟨#[]⟩))
  exact bodyPost_ret (userOf_res _ _ noUsr false hu3 _ h4 h5) rfl ⟨by rw [hr]; rfl, hb3⟩
theorem userOf_zero0 {w W : World} {B : Nat} {s : ByteArray} (hr : userS s = none) (hu : UBlk W B noUsr) (hb : Below w.heap.size w W) (tmps : Array Value) (h4 : tmps.getD 2 undef = .pointer (some ⟨B, 0, none⟩)) (h5 : tmps.getD 3 undef = .bool false) :
    bodyPost Tryd.prog Tryd.f37 (fun e w' => e = .returned (optV (userS s)) ∧ Below w.heap.size w w') Exit.ret { tmps := tmps, defers := [] } W :=
  bodyPost_ret (userOf_res _ _ noUsr false hu _ h4 h5) rfl ⟨by rw [hr]; rfl, hb⟩
/-- the cells and marks of a result's block. -/
theorem UBlk.froz {W : World} {B : Nat} {u : Usr} (h : UBlk W B u) : W.frozen? ⟨B, 0, none⟩ = false ∧ W.frozen? ⟨B, 1, none⟩ = false ∧ W.frozen? ⟨B, 2, none⟩ = false ∧ W.frozen? ⟨B, 3, none⟩ = false ∧ W.frozen? ⟨B, 4, none⟩ = false ∧ W.frozen? ⟨B, 5, none⟩ = false := by
  have h' : Blk W B _ _ := h
  exact ⟨h'.frozen 0, h'.frozen 1, h'.frozen 2, h'.frozen 3, h'.frozen 4, h'.frozen 5⟩
theorem six (ps : List ByteArray) (h : ps.length = 6) : ∃ a b c d e f, ps = [a, b, c, d, e, f] := by
  match ps, h with
  | [a, b, c, d, e, f], _ => exact ⟨a, b, c, d, e, f, rfl⟩
theorem userP_len (ps : List ByteArray) (line : List UInt8) (h : ps.length ≠ 6) : userP ps line = none := by
  unfold userP
  split
  · exact absurd rfl h
  · rfl
theorem atoi_any (s : ByteArray) (hs : s.size ≤ 8192) (w : World) (henv : Env w) :
    Calls Tryd.prog 50 #[.string s] w fun e w' => ∃ n ev, e = .returned (.tuple #[.int .i64 n, ev]) ∧ (ev = .nilIface ∨ ∃ te pe, ev = .iface te pe) ∧ Below w.heap.size w w' := by
  cases h : atoiO s.data.toList with
  | some v => exact (atoi_ok s hs v h w).mono fun e w' ⟨he, hb⟩ => ⟨_, _, he, .inl rfl, hb⟩
  | none => exact (atoi_no s hs h w henv).mono fun e w' ⟨n, te, pe, he, hb⟩ => ⟨_, _, he, .inr ⟨te, pe, rfl⟩, hb⟩
theorem atoi_range {l : List UInt8} {v : Int} (h : atoiO l = some v) : -9223372036854775808 ≤ v ∧ v ≤ 9223372036854775807 := by
  unfold atoiO at h
  rcases ha : Lib.atoiAll l with x | _ | _
  · rw [ha] at h; simp at h; subst h; exact Lib.atoiAll_bounds ha
  · rw [ha] at h; simp at h
  · rw [ha] at h; simp at h
theorem userP_c (a b c d e f : ByteArray) (line : List UInt8) (h : atoiO c.data.toList = none) : userP [a, b, c, d, e, f] line = none := by
  unfold userP; simp only [h]
theorem userP_d (a b c d e f : ByteArray) (line : List UInt8) (h : atoiO d.data.toList = none) : userP [a, b, c, d, e, f] line = none := by
  unfold userP; simp only [h]; split <;> simp_all
theorem userP_some (a b c d e f : ByteArray) (line : List UInt8) (i g : Int) (h : atoiO c.data.toList = some i) (h2 : atoiO d.data.toList = some g) :
    userP [a, b, c, d, e, f] line = if (rightU ⟨a, b, i, g, e, f⟩ && lineS ⟨a, b, i, g, e, f⟩ == line) = true then some ⟨a, b, i, g, e, f⟩ else none := by
  unfold userP; simp only [h, h2]
set_option maxRecDepth 100000 in
set_option maxHeartbeats 3200000 in
theorem userOf_any (s : ByteArray) (hs : s.size ≤ 4096) (w : World) (henv : Env w) :
    Calls Tryd.prog 37 #[.string s] w fun e w' => e = .returned (optV (userS s)) ∧ Below w.heap.size w w' := by
  have hts := trim_size s
  obtain ⟨t, ht⟩ : ∃ t, trimB s = t := ⟨_, rfl⟩
  have htd : t.data.toList = trimL s.data.toList := by rw [← ht]; rfl
  obtain ⟨ps, hps⟩ : ∃ ps, partsB t = ps := ⟨_, rfl⟩
  have hsz : ∀ x ∈ ps, x.size ≤ 4096 := fun x hx => by have := parts_size t x (by rw [hps]; exact hx); rw [ht] at hts; omega
  have hu : userS s = userP ps s.data.toList := by unfold userS; rw [ht, hps]
  have hb1 : Below w.heap.size w (w.alloc zeroU) := (Below.refl _ w).alloc (Nat.le_refl _) _
  have hu1 : UBlk (w.alloc zeroU) w.heap.size noUsr := Blk.new w 33 _
  have hsp := split58_any t (by rw [ht] at hts; omega) (w.alloc zeroU)
  rw [hps] at hsp
  have hb2 := hb1.alloc (by simp) (.cells (ps.map Value.string).toArray 9)
  have hu2 : UBlk ((w.alloc zeroU).alloc (.cells (ps.map Value.string).toArray 9)) w.heap.size noUsr := Blk.alloc hu1 _
  have bp := Blk.new (w.alloc zeroU) 9 (ps.map Value.string).toArray
  rw [World.size_alloc] at hsp bp
  have Ht := Lib.hid htd
  have henv2 := henv.below hb2
  by_cases h6 : ps.length = 6
  · obtain ⟨a, b, c, d, e, f, rfl⟩ := six ps h6
    have za := hsz a (by simp)
    have zb := hsz b (by simp)
    have zc := hsz c (by simp)
    have zd := hsz d (by simp)
    have ze := hsz e (by simp)
    have zf := hsz f (by simp)
    have Hsp := Lib.hid hsp
    simp only [List.length_cons, List.length_nil, List.map_cons, List.map_nil, Nat.reduceAdd] at hsp bp hb2 hu2 henv2
    have p2 := bp.cell 2
    have p3 := bp.cell 3
    simp only [List.getElem?_toArray, List.getElem?_cons_zero, List.getElem?_cons_succ] at p2 p3
    have Hu := Lib.hid hu
    cases hc : atoiO c.data.toList with
    | none =>
      have Hr := Lib.hid (show userS s = none by rw [hu]; exact userP_c _ _ _ _ _ _ _ hc)
      have hac := atoi_no c (by omega) hc
      have had := atoi_any d (by omega)
      clear hc
      have Hts := Lib.hid hts
      have Hb2 := Lib.hid hb2
      have Hu2 := Lib.hid hu2
      have Bp := Lib.hid bp
      clear hu hps ht htd hsz hts hb2 hu2 bp hu1 hb1
      have Hsp := Lib.hid hsp
      clear hsp
      unfold zeroU at *
      go_enter Tryd.func37, Tryd.ntmps37
      go_wp2_with (first | (go_at_call 49; refine (trim_any s t (by omega) Ht.out _).mono ?_; rintro e w' ⟨rfl, rfl⟩) | (go_at_call 48; refine Hsp.out.mono ?_; rintro e w' ⟨rfl, rfl⟩))
      refine (hac _ henv2).mono ?_
      rintro e w2 ⟨n, te, pe, rfl, hbx⟩
      have hb3 : Below w.heap.size w w2 := next Hb2.out Hb2.out.size hbx
      have hu3 : UBlk w2 w.heap.size noUsr := Blk.below Hu2.out hbx (by simp; omega)
      have bp3 : Blk w2 (w.heap.size + 1) _ _ := Bp.out.below hbx (by simp)
      have henv3 := henv2.below hbx
      clear Hb2 Hu2 Bp henv2 hbx henv
      have q3 := bp3.cell 3
      simp only [List.getElem?_toArray, List.getElem?_cons_zero, List.getElem?_cons_succ] at q3
      go_wp2_with fail
      refine (had _ henv3).mono ?_
      rintro e w3 ⟨n2, ev, rfl, hev, hby⟩
      have hb4 : Below w.heap.size w w3 := next hb3 hb3.size hby
      have hu4 : UBlk w3 w.heap.size noUsr := Blk.below hu3 hby hu3.at.lt
      have bp4 : Blk w3 (w.heap.size + 1) _ _ := bp3.below hby bp3.lt
      have henv4 := henv3.below hby
      clear hb3 hu3 bp3 henv3 hby
      obtain ⟨f0, f1, f2, f3, f4, f5⟩ := hu4.froz
      obtain ⟨c0, c1, c2, c3, c4, c5⟩ := hu4.at
      rcases hev with rfl | ⟨te2, pe2, rfl⟩
      · go_wp2
        exact userOf_zero Hr.out hu4 hb4 (Nat.le_refl _) _ rfl rfl
      · go_wp2
        exact userOf_zero Hr.out hu4 hb4 (Nat.le_refl _) _ rfl rfl
    | some i =>
      have hac := atoi_ok c (by omega) i hc
      have hri := atoi_range hc
      cases hd : atoiO d.data.toList with
      | none =>
        have Hr := Lib.hid (show userS s = none by rw [hu]; exact userP_d _ _ _ _ _ _ _ hd)
        have had := atoi_no d (by omega) hd
        clear hc hd
        have Hts := Lib.hid hts
        have Hb2 := Lib.hid hb2
        have Hu2 := Lib.hid hu2
        have Bp := Lib.hid bp
        clear hu hps ht htd hsz hts hb2 hu2 bp hu1 hb1
        have Hsp := Lib.hid hsp
        clear hsp
        unfold zeroU at *
        go_enter Tryd.func37, Tryd.ntmps37
        go_wp2_with (first | (go_at_call 49; refine (trim_any s t (by omega) Ht.out _).mono ?_; rintro e w' ⟨rfl, rfl⟩) | (go_at_call 48; refine Hsp.out.mono ?_; rintro e w' ⟨rfl, rfl⟩))
        refine (hac _).mono ?_
        rintro e w2 ⟨rfl, hbx⟩
        have hb3 : Below w.heap.size w w2 := next Hb2.out Hb2.out.size hbx
        have hu3 : UBlk w2 w.heap.size noUsr := Blk.below Hu2.out hbx (by simp; omega)
        have bp3 : Blk w2 (w.heap.size + 1) _ _ := Bp.out.below hbx (by simp)
        have henv3 := henv2.below hbx
        clear Hb2 Hu2 Bp henv2 hbx henv
        have q3 := bp3.cell 3
        simp only [List.getElem?_toArray, List.getElem?_cons_zero, List.getElem?_cons_succ] at q3
        go_wp2_with fail
        refine (had _ henv3).mono ?_
        rintro e w3 ⟨n2, te2, pe2, rfl, hby⟩
        have hb4 : Below w.heap.size w w3 := next hb3 hb3.size hby
        have hu4 : UBlk w3 w.heap.size noUsr := Blk.below hu3 hby hu3.at.lt
        have bp4 : Blk w3 (w.heap.size + 1) _ _ := bp3.below hby bp3.lt
        have henv4 := henv3.below hby
        clear hb3 hu3 bp3 henv3 hby
        obtain ⟨f0, f1, f2, f3, f4, f5⟩ := hu4.froz
        obtain ⟨c0, c1, c2, c3, c4, c5⟩ := hu4.at
        go_wp2
        exact userOf_zero Hr.out hu4 hb4 (Nat.le_refl _) _ rfl rfl
      | some g =>
        have had := atoi_ok d (by omega) g hd
        have hrg := atoi_range hd
        have Hr := Lib.hid (show userS s = if (rightU ⟨a, b, i, g, e, f⟩ && lineS ⟨a, b, i, g, e, f⟩ == s.data.toList) = true then some ⟨a, b, i, g, e, f⟩ else none by rw [hu]; exact userP_some _ _ _ _ _ _ _ _ _ hc hd)
        clear hc hd
        have Hts := Lib.hid hts
        have Hb2 := Lib.hid hb2
        have Hu2 := Lib.hid hu2
        have Bp := Lib.hid bp
        clear hu hps ht htd hsz hts hb2 hu2 bp hu1 hb1
        have Hsp := Lib.hid hsp
        clear hsp
        unfold zeroU at *
        go_enter Tryd.func37, Tryd.ntmps37
        go_wp2_with (first | (go_at_call 49; refine (trim_any s t (by omega) Ht.out _).mono ?_; rintro e w' ⟨rfl, rfl⟩) | (go_at_call 48; refine Hsp.out.mono ?_; rintro e w' ⟨rfl, rfl⟩))
        refine (hac _).mono ?_
        rintro e w2 ⟨rfl, hbx⟩
        have hb3 : Below w.heap.size w w2 := next Hb2.out Hb2.out.size hbx
        have hu3 : UBlk w2 w.heap.size noUsr := Blk.below Hu2.out hbx (by simp; omega)
        have bp3 : Blk w2 (w.heap.size + 1) _ _ := Bp.out.below hbx (by simp)
        have henv3 := henv2.below hbx
        clear Hb2 Hu2 Bp henv2 hbx henv
        have q3 := bp3.cell 3
        simp only [List.getElem?_toArray, List.getElem?_cons_zero, List.getElem?_cons_succ] at q3
        go_wp2_with fail
        refine (had _).mono ?_
        rintro e w3 ⟨rfl, hby⟩
        have hb4 : Below w.heap.size w w3 := next hb3 hb3.size hby
        have hu4 : UBlk w3 w.heap.size noUsr := Blk.below hu3 hby hu3.at.lt
        have bp4 : Blk w3 (w.heap.size + 1) _ _ := bp3.below hby bp3.lt
        have henv4 := henv3.below hby
        clear hb3 hu3 bp3 henv3 hby
        obtain ⟨f0, f1, f2, f3, f4, f5⟩ := hu4.froz
        obtain ⟨c0, c1, c2, c3, c4, c5⟩ := hu4.at
        have r0 := bp4.cell 0
        have r1 := bp4.cell 1
        have r4 := bp4.cell 4
        have r5 := bp4.cell 5
        simp only [List.getElem?_toArray, List.getElem?_cons_zero, List.getElem?_cons_succ] at r0 r1 r4 r5
        have hlt4 : w.heap.size + 1 < w3.heap.size := bp4.lt
        have hne4 : w.heap.size + 1 ≠ w3.heap.size := by omega
        go_wp2
        go_region
        have hb5 : Below w.heap.size w (w3.alloc (boxU ⟨a, b, i, g, e, f⟩)).drew := (hb4.alloc hb4.size _).drew
        have hv5 : UBlk (w3.alloc (boxU ⟨a, b, i, g, e, f⟩)).drew w3.heap.size ⟨a, b, i, g, e, f⟩ := Blk.new w3 33 _
        have hu5 : UBlk (w3.alloc (boxU ⟨a, b, i, g, e, f⟩)).drew w.heap.size noUsr := Blk.alloc hu4 _
        have henv5 : Env (w3.alloc (boxU ⟨a, b, i, g, e, f⟩)).drew := henv4.below ((Below.refl _ w3).alloc (Nat.le_refl _) _).drew
        have hok : OkU ⟨a, b, i, g, e, f⟩ := ⟨by show a.size ≤ maxLen; unfold maxLen; omega, by show b.size ≤ maxLen; unfold maxLen; omega, by show e.size ≤ maxLen; unfold maxLen; omega, by show f.size ≤ maxLen; unfold maxLen; omega, hri, hrg⟩
        clear hb4 hu4 henv4 bp4 r0 r1 r4 r5 c0 c1 c2 c3 c4 c5 f0 f1 f2 f3 f4 f5 hac had
        unfold boxU at *
        simp only at hb5 hv5 hu5 henv5
        generalize w3.heap.size = V at *
        generalize (w3.alloc (Obj.cells #[.string a, .string b, .int .i64 i, .int .i64 g, .string e, .string f] 33)).drew = w4 at *
        obtain ⟨c0, c1, c2, c3, c4, c5⟩ := hv5.at
        have hcall := rightUser_any ⟨a, b, i, g, e, f⟩ hok w4
        unfold Usr.val at hcall
        simp only at hcall c0 c1 c2 c3 c4 c5
        cases hrb : rightU ⟨a, b, i, g, e, f⟩
        · rw [hrb] at hcall
          have Hz := Lib.hid (show userS s = none by rw [Hr.out, hrb]; rfl)
          clear hrb
          go_wp2_with fail
          refine hcall.mono ?_
          rintro e2 w5 ⟨rfl, hbz⟩
          have hb6 : Below w.heap.size w w5 := next hb5 hb5.size hbz
          have hu6 : UBlk w5 w.heap.size noUsr := Blk.below hu5 hbz hu5.at.lt
          clear hb5 hu5 hv5 henv5 hbz c0 c1 c2 c3 c4 c5 hcall
          obtain ⟨f0, f1, f2, f3, f4, f5⟩ := hu6.froz
          obtain ⟨c0, c1, c2, c3, c4, c5⟩ := hu6.at
          go_wp2
          exact userOf_zero Hz.out hu6 hb6 (Nat.le_refl _) _ rfl rfl
        · have hline := lineOf_any ⟨a, b, i, g, e, f⟩ hrb
          have hll := line_len hrb
          unfold Usr.val at hline
          simp only at hline
          rw [hrb] at hcall
          obtain ⟨tl, htl⟩ : ∃ tl : ByteArray, (⟨(lineS ⟨a, b, i, g, e, f⟩).toArray⟩ : ByteArray) = tl := ⟨_, rfl⟩
          have htld : tl.toList = lineS ⟨a, b, i, g, e, f⟩ := by rw [← htl, toL]
          rw [htl] at hline
          have Hz := Lib.hid (show userS s = if (tl.toList == s.toList) = true then some ⟨a, b, i, g, e, f⟩ else none by rw [Hr.out, hrb, htld, ByteArray.toList_eq s]; rfl)
          have Hline := Lib.hid hline
          clear hrb hll htl htld hline
          go_wp2_with fail
          refine hcall.mono ?_
          rintro e2 w5 ⟨rfl, hbz⟩
          have hb6 : Below w.heap.size w w5 := next hb5 hb5.size hbz
          have hu6 : UBlk w5 w.heap.size noUsr := Blk.below hu5 hbz hu5.at.lt
          have hv6 : UBlk w5 V ⟨a, b, i, g, e, f⟩ := Blk.below hv5 hbz hv5.at.lt
          have henv6 := henv5.below hbz
          clear hb5 hu5 hv5 henv5 hbz c0 c1 c2 c3 c4 c5 hcall
          obtain ⟨c0, c1, c2, c3, c4, c5⟩ := hv6.at
          simp only at c0 c1 c2 c3 c4 c5
          go_wp2_with fail
          refine (Hline.out _ henv6).mono ?_
          rintro e3 w6 ⟨rfl, hbz⟩
          have hb7 : Below w.heap.size w w6 := next hb6 hb6.size hbz
          have hu7 : UBlk w6 w.heap.size noUsr := Blk.below hu6 hbz hu6.at.lt
          have hv7 : UBlk w6 V ⟨a, b, i, g, e, f⟩ := Blk.below hv6 hbz hv6.at.lt
          clear hb6 hu6 hv6 henv6 hbz c0 c1 c2 c3 c4 c5
          obtain ⟨f0, f1, f2, f3, f4, f5⟩ := hu7.froz
          obtain ⟨c0, c1, c2, c3, c4, c5⟩ := hu7.at
          cases heq : tl.toList == s.toList
          · have Hz2 := Lib.hid (show userS s = none by rw [Hz.out, heq]; rfl)
            have hne : (tl.toList != s.toList) = true := by unfold bne; rw [heq]; rfl
            go_wp2
            exact userOf_zero Hz2.out hu7 hb7 (Nat.le_refl _) _ rfl rfl
          · have Hz2 := Lib.hid (show userS s = some ⟨a, b, i, g, e, f⟩ by rw [Hz.out, heq]; rfl)
            have hne : (tl.toList != s.toList) = false := by unfold bne; rw [heq]; rfl
            obtain ⟨d0, d1, d2, d3, d4, d5⟩ := hv7.at
            simp only at d0 d1 d2 d3 d4 d5
            go_wp2
            have hu8 : UBlk (st6 w6 w.heap.size (.string a) (.string b) (.int .i64 i) (.int .i64 g) (.string e) (.string f)) w.heap.size ⟨a, b, i, g, e, f⟩ := st6_blk hu7 _ _ _ _ _ _
            have hb8 := hb7.trans (st6_below w6 (Nat.le_refl _) (.string a) (.string b) (.int .i64 i) (.int .i64 g) (.string e) (.string f))
            exact bodyPost_ret (userOf_res _ _ ⟨a, b, i, g, e, f⟩ true hu8 _ rfl rfl) rfl ⟨by rw [Hz2.out]; rfl, hb8⟩
  · have Hr := Lib.hid (show userS s = none by rw [hu]; exact userP_len ps _ h6)
    have hlm : ps.length ≤ 100000 := by
      rw [← hps, partsB_len, countB_58]
      have : t.data.toList.count 58 ≤ t.data.toList.length := List.count_le_length
      rw [size_len] at this; rw [ht] at hts; omega
    have Hsp := Lib.hid hsp
    obtain ⟨f0, f1, f2, f3, f4, f5⟩ := hu2.froz
    obtain ⟨c0, c1, c2, c3, c4, c5⟩ := hu2.at
    clear hts ht htd hps hu hsp hsz bp henv2 hu1
    unfold zeroU at *
    go_enter Tryd.func37, Tryd.ntmps37
    go_wp2_with (first | (go_at_call 49; refine (trim_any s t (by omega) Ht.out _).mono ?_; rintro e w' ⟨rfl, rfl⟩) | (go_at_call 48; refine Hsp.out.mono ?_; rintro e w' ⟨rfl, rfl⟩))
    exact userOf_zero0 Hr.out hu2 hb2 _ rfl rfl
end Go.Proofs.YtjopmchbphjliaaDoor
