/- first, Find, Of: a struct and a bool. -/
import Derived.Test.YtjopmchbphjliaaGreatDoorU2
namespace Go.Proofs.YtjopmchbphjliaaGreatDoor
open Go.RowKit Go.Shelf

def findU (q : Usr → Bool) (us : List Usr) : Usr := (us.find? q).getD noUsr
def foundV (q : Usr → Bool) (us : List Usr) : Value := .tuple #[(findU q us).val, .bool (us.any q)]
theorem found_no (q : Usr → Bool) (us : List Usr) (h : findI q us < 0) : foundV q us = .tuple #[noUsr.val, .bool false] := by
  have h1 : us.any q = false := by rw [← findI_any, decide_eq_false (by omega)]
  have h2 : us.find? q = none := by
    rw [List.find?_eq_none]; intro x hx hq
    have : us.any q = true := List.any_eq_true.2 ⟨x, hx, hq⟩
    rw [h1] at this; cases this
  unfold foundV findU
  rw [h1, h2]; rfl
theorem found_yes (q : Usr → Bool) (us : List Usr) (h : 0 ≤ findI q us) : ∃ k u, findI q us = (k : Nat) ∧ k < us.length ∧ us[k]? = some u ∧ foundV q us = .tuple #[u.val, .bool true] := by
  have h1 : us.any q = true := by rw [← findI_any, decide_eq_true h]
  have key : ∀ l : List Usr, 0 ≤ findI q l → ∃ k u, findI q l = (k : Nat) ∧ k < l.length ∧ l[k]? = some u ∧ l.find? q = some u := by
    intro l
    induction l with
    | nil => intro h; simp [findI] at h
    | cons x xs ih =>
      intro h
      unfold findI at h ⊢
      by_cases hq : q x = true
      · rw [if_pos hq]; exact ⟨0, x, rfl, by simp, rfl, by rw [List.find?_cons, hq]⟩
      · rw [if_neg hq] at h ⊢
        by_cases h2 : findI q xs < 0
        · rw [if_pos h2] at h; exact absurd h (by decide)
        · rw [if_neg h2] at h ⊢
          obtain ⟨k, u, h3, h4, h5, h6⟩ := ih (by omega)
          exact ⟨k + 1, u, by omega, by simp; omega, by simpa using h5, by rw [List.find?_cons, Bool.eq_false_iff.2 hq]; exact h6⟩
  obtain ⟨k, u, h3, h4, h5, h6⟩ := key us h
  refine ⟨k, u, h3, h4, h5, ?_⟩
  unfold foundV findU
  rw [h1, h6]; rfl
/-- a user in a block of its own. -/
def UBlk (W : World) (B : Nat) (u : Usr) : Prop := Blk W B 29 #[.string u.name, .string u.pass, .int .i64 u.id, .int .i64 u.grp, .string u.home, .string u.shell]
theorem UBlk.at {W : World} {B : Nat} {u : Usr} (h : UBlk W B u) : UAt W B 0 u := by
  have h' : Blk W B _ _ := h
  exact ⟨h'.cell 0, h'.cell 1, h'.cell 2, h'.cell 3, h'.cell 4, h'.cell 5⟩
/-- six cells stored into a block. -/
abbrev st6 (W : World) (B : Nat) (a b c d e f : Value) : World :=
  (((((W.setCell ⟨B, 0, none⟩ a).setCell ⟨B, 1, none⟩ b).setCell ⟨B, 2, none⟩ c).setCell ⟨B, 3, none⟩ d).setCell ⟨B, 4, none⟩ e).setCell ⟨B, 5, none⟩ f
theorem st6_blk {W : World} {B : Nat} {u0 : Usr} (h : UBlk W B u0) (a b c d e f : Value) : Blk (st6 W B a b c d e f) B 29 #[a, b, c, d, e, f] := by
  have h' : Blk W B _ _ := h
  exact (((((h'.set 0 _).set 1 _).set 2 _).set 3 _).set 4 _).set 5 _
theorem st6_below (W : World) {B n : Nat} (hn : n ≤ B) (a b c d e f : Value) : Below n W (st6 W B a b c d e f) :=
  ((((((Below.refl n W).setCell (p := ⟨B, 0, none⟩) hn _).setCell (p := ⟨B, 1, none⟩) hn _).setCell (p := ⟨B, 2, none⟩) hn _).setCell (p := ⟨B, 3, none⟩) hn _).setCell (p := ⟨B, 4, none⟩) hn _).setCell (p := ⟨B, 5, none⟩) hn _
theorem first_res (W : World) (B : Nat) (u : Usr) (b : Bool) (h : UBlk W B u) (tmps : Array Value) (h4 : tmps.getD 4 undef = .pointer (some ⟨B, 0, none⟩)) (h5 : tmps.getD 5 undef = .bool b) :
    (results Tryz.f30 tmps).run Tryz.prog W = .ok (.tuple #[u.val, .bool b]) W := by
  obtain ⟨c0, c1, c2, c3, c4, c5⟩ := h.at
  simp only [Array.getD_eq_getD_getElem?] at h4 h5
  simp only [results, Tryz.f30, Usr.val]
  simp [go_sem, h4, h5, c0, c1, c2, c3, c4, c5]
set_option maxHeartbeats 1600000 in
theorem first_any (q : Usr → Bool) (g : Nat) (lb : Array Value) (eg : ∀ args w, (callFunc g args).run Tryz.prog w = .ok (.enter g args) w) (p : Option Addr) (n cap : Nat) (us : List Usr) (w : World)
    (hin : InUsers w p n us) (hn : n ≤ maxLen) (hp : PredU g lb q w) :
    Calls Tryz.prog 30 #[.slice p n cap, .func (.func g) #[] lb] w fun e w' => e = .returned (foundV q us) ∧ Below w.heap.size w w' := by
  have hb1 : Below w.heap.size w (w.alloc (.cells #[.string ⟨#[]⟩, .string ⟨#[]⟩, .int .i64 0, .int .i64 0, .string ⟨#[]⟩, .string ⟨#[]⟩] 29)) := (Below.refl _ w).alloc (Nat.le_refl _) _
  have hu1 : UBlk (w.alloc (.cells #[.string ⟨#[]⟩, .string ⟨#[]⟩, .int .i64 0, .int .i64 0, .string ⟨#[]⟩, .string ⟨#[]⟩] 29)) w.heap.size noUsr := Blk.new w 29 _
  have hcon := index_any q g lb eg p n cap us _ (hin.below hb1 (Nat.le_refl _)) hn (hp.older hb1)
  have Hin := Lib.hid hin
  clear hin hp
  by_cases hneg : findI q us < 0
  · have Hr := Lib.hid (found_no q us hneg)
    generalize findI q us = r at hcon hneg
    go_enter Tryz.func30, Tryz.ntmps30
    go_wp2_with fail
    refine hcon.mono ?_
    rintro e w' ⟨rfl, hb'⟩
    have hu2 : UBlk w' w.heap.size noUsr := Blk.below hu1 hb' (by simp)
    have hb2 : Below w.heap.size w w' := hb1.trans (hb'.mono (by simp))
    clear hu1 hb1 hcon hb'
    have hu2' : Blk w' w.heap.size _ _ := hu2
    have hf0 := hu2'.frozen 0
    have hf1 := hu2'.frozen 1
    have hf2 := hu2'.frozen 2
    have hf3 := hu2'.frozen 3
    have hf4 := hu2'.frozen 4
    have hf5 := hu2'.frozen 5
    obtain ⟨c0, c1, c2, c3, c4, c5⟩ := hu2.at
    go_wp2
    have hu3 : UBlk (st6 w' w.heap.size (.string ⟨#[]⟩) (.string ⟨#[]⟩) (.int .i64 0) (.int .i64 0) (.string ⟨#[]⟩) (.string ⟨#[]⟩)) w.heap.size noUsr := st6_blk hu2 _ _ _ _ _ _
    have hb3 := hb2.trans (st6_below w' (Nat.le_refl _) (.string ⟨#[]⟩) (.string ⟨#[]⟩) (.int .i64 0) (.int .i64 0) (.string ⟨#[]⟩) (.string ⟨#[]⟩))
    refine bodyPost_ret (first_res _ _ noUsr false hu3 _ rfl rfl) rfl ⟨?_, hb3⟩
    rw [Hr.out]
  · obtain ⟨k, u, hk, hkl, hku, hr⟩ := found_yes q us (by omega)
    have Hr := Lib.hid hr
    obtain ⟨hok, b, off, hpp, hc⟩ := Hin.out.2 k u hku
    have hlen := Hin.out.1
    subst hlen
    subst hpp
    rw [hk] at hcon
    clear hneg hku hk hr
    unfold maxLen at hn
    go_enter Tryz.func30, Tryz.ntmps30
    go_wp2_with fail
    refine hcon.mono ?_
    rintro e w' ⟨rfl, hb'⟩
    have hu2 : UBlk w' w.heap.size noUsr := Blk.below hu1 hb' (by simp)
    have hb2 : Below w.heap.size w w' := hb1.trans (hb'.mono (by simp))
    have hc2 := hc.below hb2 hc.lt
    clear hu1 hb1 hcon hb' hc
    have hu2' : Blk w' w.heap.size _ _ := hu2
    have hf0 := hu2'.frozen 0
    have hf1 := hu2'.frozen 1
    have hf2 := hu2'.frozen 2
    have hf3 := hu2'.frozen 3
    have hf4 := hu2'.frozen 4
    have hf5 := hu2'.frozen 5
    obtain ⟨c0, c1, c2, c3, c4, c5⟩ := hu2.at
    obtain ⟨d0, d1, d2, d3, d4, d5⟩ := hc2
    go_wp2
    have hu3 : UBlk (st6 w' w.heap.size (.string u.name) (.string u.pass) (.int .i64 u.id) (.int .i64 u.grp) (.string u.home) (.string u.shell)) w.heap.size u := st6_blk hu2 _ _ _ _ _ _
    have hb3 := hb2.trans (st6_below w' (Nat.le_refl _) (.string u.name) (.string u.pass) (.int .i64 u.id) (.int .i64 u.grp) (.string u.home) (.string u.shell))
    refine bodyPost_ret (first_res _ _ u true hu3 _ rfl rfl) rfl ⟨?_, hb3⟩
    rw [Hr.out]
theorem find_res (W : World) (B : Nat) (u : Usr) (b : Bool) (h : UBlk W B u) (tmps : Array Value) (h4 : tmps.getD 4 undef = .pointer (some ⟨B, 0, none⟩)) (h5 : tmps.getD 5 undef = .bool b) :
    (results Tryz.f14 tmps).run Tryz.prog W = .ok (.tuple #[u.val, .bool b]) W := by
  obtain ⟨c0, c1, c2, c3, c4, c5⟩ := h.at
  simp only [Array.getD_eq_getD_getElem?] at h4 h5
  simp only [results, Tryz.f14, Usr.val]
  simp [go_sem, h4, h5, c0, c1, c2, c3, c4, c5]
theorem of_res (W : World) (B : Nat) (u : Usr) (b : Bool) (h : UBlk W B u) (tmps : Array Value) (h4 : tmps.getD 4 undef = .pointer (some ⟨B, 0, none⟩)) (h5 : tmps.getD 5 undef = .bool b) :
    (results Tryz.f16 tmps).run Tryz.prog W = .ok (.tuple #[u.val, .bool b]) W := by
  obtain ⟨c0, c1, c2, c3, c4, c5⟩ := h.at
  simp only [Array.getD_eq_getD_getElem?] at h4 h5
  simp only [results, Tryz.f16, Usr.val]
  simp [go_sem, h4, h5, c0, c1, c2, c3, c4, c5]
set_option maxHeartbeats 1600000 in
theorem find_any (p : Option Addr) (n cap : Nat) (us : List Usr) (s : ByteArray) (w : World) (hin : InUsers w p n us) (hn : n ≤ maxLen) :
    Calls Tryz.prog 14 #[.slice p n cap, .string s] w fun e w' => e = .returned (foundV (qName s) us) ∧ Below w.heap.size w w' := by
  have hb1 : Below w.heap.size w (w.alloc (.cells #[.string ⟨#[]⟩, .string ⟨#[]⟩, .int .i64 0, .int .i64 0, .string ⟨#[]⟩, .string ⟨#[]⟩] 29)) := (Below.refl _ w).alloc (Nat.le_refl _) _
  have hu1 : UBlk (w.alloc (.cells #[.string ⟨#[]⟩, .string ⟨#[]⟩, .int .i64 0, .int .i64 0, .string ⟨#[]⟩, .string ⟨#[]⟩] 29)) w.heap.size noUsr := Blk.new w 29 _
  have hb2 := hb1.alloc (by simp) (.cells #[.string s] 9)
  have hu2 : UBlk ((w.alloc (.cells #[.string ⟨#[]⟩, .string ⟨#[]⟩, .int .i64 0, .int .i64 0, .string ⟨#[]⟩, .string ⟨#[]⟩] 29)).alloc (.cells #[.string s] 9)) w.heap.size noUsr := Blk.alloc hu1 _
  have hcon := first_any (qName s) 51 #[.pointer (some ⟨w.heap.size + 1, 0, none⟩)] enters_named1 p n cap us _ (hin.below hb2 (Nat.le_refl _)) hn
    (named1_any s (w.heap.size + 1) _ (by simp) (by
      have := Boxed.new (w.alloc (.cells #[.string ⟨#[]⟩, .string ⟨#[]⟩, .int .i64 0, .int .i64 0, .string ⟨#[]⟩, .string ⟨#[]⟩] 29)) 9 (.string s)
      simp only [World.size_alloc] at this; exact this.cell))
  clear hin hu1 hb1
  obtain ⟨u, hu⟩ : ∃ u, findU (qName s) us = u := ⟨_, rfl⟩
  obtain ⟨b, hb⟩ : ∃ b, us.any (qName s) = b := ⟨_, rfl⟩
  unfold foundV at hcon ⊢
  rw [hu, hb] at hcon ⊢
  clear hu hb
  unfold Usr.val at hcon
  go_enter Tryz.func14, Tryz.ntmps14
  go_wp2_with (go_at_call 31; refine (named_any s _).mono ?_; rintro e w' ⟨rfl, rfl⟩)
  refine hcon.mono ?_
  rintro e w' ⟨rfl, hb'⟩
  have hu3 : UBlk w' w.heap.size noUsr := Blk.below hu2 hb' (by simp; omega)
  have hb3 : Below w.heap.size w w' := hb2.trans (hb'.mono (by simp; omega))
  clear hu2 hb2 hcon hb'
  have hu2' : Blk w' w.heap.size _ _ := hu3
  have hf0 := hu2'.frozen 0
  have hf1 := hu2'.frozen 1
  have hf2 := hu2'.frozen 2
  have hf3 := hu2'.frozen 3
  have hf4 := hu2'.frozen 4
  have hf5 := hu2'.frozen 5
  obtain ⟨c0, c1, c2, c3, c4, c5⟩ := hu3.at
  go_wp2
  have hu4 : UBlk (st6 w' w.heap.size (.string u.name) (.string u.pass) (.int .i64 u.id) (.int .i64 u.grp) (.string u.home) (.string u.shell)) w.heap.size u := st6_blk hu3 _ _ _ _ _ _
  have hb4 := hb3.trans (st6_below w' (Nat.le_refl _) (.string u.name) (.string u.pass) (.int .i64 u.id) (.int .i64 u.grp) (.string u.home) (.string u.shell))
  exact bodyPost_ret (find_res _ _ u b hu4 _ rfl rfl) rfl ⟨rfl, hb4⟩
set_option maxHeartbeats 1600000 in
theorem of_any (p : Option Addr) (n cap : Nat) (us : List Usr) (i : Int) (w : World) (hin : InUsers w p n us) (hn : n ≤ maxLen) :
    Calls Tryz.prog 16 #[.slice p n cap, .int .i64 i] w fun e w' => e = .returned (foundV (qId i) us) ∧ Below w.heap.size w w' := by
  have hb0 : Below w.heap.size w (w.alloc (.cells #[.int .i64 i] 3)) := (Below.refl _ w).alloc (Nat.le_refl _) _
  have hi0 := Boxed.new w 3 (.int .i64 i)
  have hb2 := hb0.alloc (by simp) (.cells #[.string ⟨#[]⟩, .string ⟨#[]⟩, .int .i64 0, .int .i64 0, .string ⟨#[]⟩, .string ⟨#[]⟩] 29)
  have hu2 := Blk.new (w.alloc (.cells #[.int .i64 i] 3)) 29 #[.string ⟨#[]⟩, .string ⟨#[]⟩, .int .i64 0, .int .i64 0, .string ⟨#[]⟩, .string ⟨#[]⟩]
  rw [World.size_alloc] at hu2
  have hcon := first_any (qId i) 32 #[.pointer (some ⟨w.heap.size, 0, none⟩)] enters_of1 p n cap us _ (hin.below hb2 (Nat.le_refl _)) hn
    (of1_any i w.heap.size _ (by simp; omega) ((hi0.alloc _).cell))
  clear hin hb0 hi0
  obtain ⟨u, hu⟩ : ∃ u, findU (qId i) us = u := ⟨_, rfl⟩
  obtain ⟨b, hb⟩ : ∃ b, us.any (qId i) = b := ⟨_, rfl⟩
  unfold foundV at hcon ⊢
  rw [hu, hb] at hcon ⊢
  clear hu hb
  unfold Usr.val at hcon
  go_enter Tryz.func16, Tryz.ntmps16
  go_wp2_with fail
  refine hcon.mono ?_
  rintro e w' ⟨rfl, hb'⟩
  have hu3 : UBlk w' (w.heap.size + 1) noUsr := Blk.below hu2 hb' (by simp)
  have hb3 : Below w.heap.size w w' := hb2.trans (hb'.mono (by simp; omega))
  clear hu2 hb2 hcon hb'
  have hu2' : Blk w' (w.heap.size + 1) _ _ := hu3
  have hf0 := hu2'.frozen 0
  have hf1 := hu2'.frozen 1
  have hf2 := hu2'.frozen 2
  have hf3 := hu2'.frozen 3
  have hf4 := hu2'.frozen 4
  have hf5 := hu2'.frozen 5
  obtain ⟨c0, c1, c2, c3, c4, c5⟩ := hu3.at
  go_wp2
  have hu4 : UBlk (st6 w' (w.heap.size + 1) (.string u.name) (.string u.pass) (.int .i64 u.id) (.int .i64 u.grp) (.string u.home) (.string u.shell)) (w.heap.size + 1) u := st6_blk hu3 _ _ _ _ _ _
  have hb4 := hb3.trans (st6_below w' (n := w.heap.size) (B := w.heap.size + 1) (by omega) (.string u.name) (.string u.pass) (.int .i64 u.id) (.int .i64 u.grp) (.string u.home) (.string u.shell))
  exact bodyPost_ret (of_res _ _ u b hu4 _ rfl rfl) rfl ⟨rfl, hb4⟩
end Go.Proofs.YtjopmchbphjliaaGreatDoor
