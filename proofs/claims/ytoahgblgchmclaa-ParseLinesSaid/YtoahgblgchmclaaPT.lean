/- The branches of an if. -/
import Derived.Test.YtoahgblgchmclaaPS
namespace Go.Proofs.Ytoahgblgchmclaa
open Go.RowKit
set_option linter.unusedVariables false
set_option linter.unusedSimpArgs false
section
variable {W w w' : World} {n p g cap : Nat} {K Kt K2 X : Nat → Prop} {all : List Tk} {nv nvt nv2 kv v : Value} {s t u : S} {ks l : List Int}
theorem is_txt (s : S) (t : Bs) {b : Bool} (hb : s.is t = b) : (((st s.hd.text).toList == t) : Bool) = b := by rw [st_toList]; exact hb
/-- a node of kids alone. -/
theorem add_kids (h : PM w n Kt p g cap all nvt t) (kd : Int) (row : Ints w (own1 v) v l) (hp : pot t + 1 ≤ 100000) :
    Calls Try.prog 42 #[.pointer (some ⟨p, 0, none⟩), .agg #[.int .i64 kd, .string ⟨#[]⟩, .bool false, .slice none 0 0, .slice none 0 0, .slice none 0 0, .slice none 0 0, v]] w fun e w' => e = .returned (.int .i64 (t.add (nd kd l)).1) ∧ ∃ nv', PM w' n (fun k => Kt k ∨ own1 v k) p g cap all nv' (t.add (nd kd l)).2 ∧ GoA p nvt nv' w w' :=
  add_any (K' := fun k => Kt k ∨ own1 v k) h (nd kd l) (fun k e => .inl e) (fun k e => by
    rcases e with e | e
    · exact h.x.kb k e
    · exact (ownz_type row.1 e).2.1) (Strs.nil _ _) (Strs.nil _ _) (Rds.nil _ _) (Pats.nil _ _) (row.mono fun k e => .inr e) hp
/-- a row of one's own stays it, where a node takes other rows. -/
theorem KR.add (h : KR W n K p g cap all nv w t nvt Kt kv ks) (hp : PM w' n (fun k => Kt k ∨ X k) p g cap all nv2 u) (hg : GoA p nvt nv2 w w') (hX : ∀ k, X k → W.heap.size ≤ k) (hd : ∀ k, X k → ¬ own1 kv k) : KR W n K p g cap all nv w' u nv2 (fun k => Kt k ∨ X k) kv ks :=
  ⟨hp, h.go.add hg (fun k e => by
    rcases e with e | e
    · exact h.go.kk k e
    · exact .inr (hX k e)), h.row.fr hg.fr h.pm.tpn, h.fr, fun k e hk => by
    rcases hk with hk | hk
    · exact h.mine k e hk
    · exact hd k hk e⟩
set_option maxHeartbeats 4000000 in
theorem branches_any {L : S → Int × S} {o : Nat} {bd : Int} (hL : Lst L) (HL : LCon L n p g cap all o bd) : ∀ (m : Nat) {W : World} {K : Nat → Prop} {nv : Value} {s : S} (h : PM W n K p g cap all nv s) (x : ByteArray) (wd : Bs) (hx : x = st wd) (hwn : ¬ wd = []) (his : s.is wd = true) (hm : s.ts.length ≤ m) (ho : o ≤ s.opn) (ho2 : s.opn ≤ 25) (hp : pot s + 60 ≤ bd ∧ bd ≤ 60000),
    Calls Try.prog 67 #[.pointer (some ⟨p, 0, none⟩), .string x] W (RowPost W n K p g cap all nv (branG L m wd s)) := by
  intro m
  induction m with
  | zero => intro W K nv s h x wd hx hwn his hm; have := h.x.inv.good.ne; omega
  | succ m ih =>
    intro W K nv s h x wd hx hwn his hm ho ho2 hp
    have H := Lib.hid h
    have i0 := h.x.inv
    have HX := Lib.hid (expect_any h x wd hx hwn)
    have s1 := need_is hwn his n i0
    obtain ⟨t1, ht1⟩ : ∃ t1, s.need wd = t1 := ⟨_, rfl⟩
    have hsz1 : t1.ts.length + 1 ≤ s.ts.length := by
      rw [← ht1]
      unfold S.need
      rw [if_pos his]
      show s.ts.tail.length + 1 ≤ _
      rw [List.length_tail]
      have := i0.good.ne
      omega
    rw [ht1] at HX s1
    obtain ⟨R, hb⟩ : ∃ R, branG L (m + 1) wd s = R := ⟨_, rfl⟩
    rw [hb]
    rw [branG] at hb
    obtain ⟨a, ha⟩ : ∃ a, L t1 = a := ⟨_, rfl⟩
    have HA := Lib.hid (fun (w : World) (K : Nat → Prop) (nv : Value) (h : PM w n K p g cap all nv t1) => HL w K nv t1 h (by have := s1.2.2.1; omega) (by have := s1.2.2.1; omega) (by have := s1.2.2.2; omega))
    have s2 := hL t1 n s1.1
    rw [ha] at HA s2
    have s3 := need_st a.2 (t := [116, 104, 101, 110]) (by decide) n s2.1
    obtain ⟨t3, ht3⟩ : ∃ t3, a.2.need [116, 104, 101, 110] = t3 := ⟨_, rfl⟩
    have HT := Lib.hid (fun (w : World) (K : Nat → Prop) (nv : Value) (h : PM w n K p g cap all nv a.2) => expect_any h ⟨#[116, 104, 101, 110]⟩ [116, 104, 101, 110] rfl (by decide))
    rw [ht3] at HT s3
    obtain ⟨b, hbb⟩ : ∃ b, L t3 = b := ⟨_, rfl⟩
    have HB := Lib.hid (fun (w : World) (K : Nat → Prop) (nv : Value) (h : PM w n K p g cap all nv t3) => HL w K nv t3 h (by have := s1.2.2.1; have := s2.2.2.1; have := s3.2.2.1; omega) (by have := s1.2.2.1; have := s2.2.2.1; have := s3.2.2.1; omega) (by have := s1.2.2.2; have := s2.2.2.2; have := s3.2.2.2; omega))
    have s4 := hL t3 n s3.1
    rw [hbb] at HB s4
    have hsz4 : b.2.ts.length ≤ m := by
      have h2 := s2.2.1.suf.length_le
      have h3 := s3.2.1.suf.length_le
      have h4 := s4.2.1.suf.length_le
      omega
    have hopn4 : b.2.opn = s.opn := by have := s1.2.2.1; have := s2.2.2.1; have := s3.2.2.1; have := s4.2.2.1; omega
    have hpot4 : pot b.2 ≤ pot s - 10 := by have := s1.2.2.2; have := s2.2.2.2; have := s3.2.2.2; have := s4.2.2.2; omega
    have hi4 := s4.1
    rw [ht1, ha, ht3, hbb] at hb
    dsimp only at hb
    have HN := Lib.hid (fun (w : World) (K : Nat → Prop) (nv : Value) (h : PM w n K p g cap all nv b.2) => next_any h)
    clear hx s1 s2 s3 s4 h i0 ht1 ha ht3 hbb hsz1 his hm
    cases he : b.2.is [101, 108, 105, 102] with
    | true =>
      rw [he] at hb
      simp only [if_true] at hb
      have HV := Lib.hid hb
      have hst := branG_st hL m [101, 108, 105, 102] b.2 (by decide) he n hi4
      have HI := Lib.hid (fun (w : World) (K : Nat → Prop) (nv : Value) (h : PM w n K p g cap all nv b.2) => ih h ⟨#[101, 108, 105, 102]⟩ [101, 108, 105, 102] rfl (by decide) he hsz4 (by omega) (by omega) (by omega))
      have hpr : pot (branG L m [101, 108, 105, 102] b.2).2 + 1 ≤ 100000 := by have := hst.2.2.2; omega
      obtain ⟨r, hr⟩ : ∃ r, branG L m [101, 108, 105, 102] b.2 = r := ⟨_, rfl⟩
      rw [hr] at HI HV hpr
      have htx := is_txt b.2 _ he
      have HPR := Lib.hid hpr
      clear hb hst hr he ih hL HL hsz4 hopn4 hpot4 hi4 hwn hp ho ho2 hpr
      go_enter Try.func67, Try.ntmps67
      go_upto_region 6 with (first | (refine wpList_field rfl _ _ rfl _ _ _ rfl _ rfl ?_) | (go_at_call 68; (with_reducible refine HX.out.mono ?_); rintro e w1 ⟨rfl, hP1, hF1⟩; have HP1 := Lib.hid hP1; have HG1 := Lib.hid (Go.of (nv := nv) (K := K) hF1); clear hP1 hF1 HX) | (go_at_call 24; (with_reducible refine (HA.out _ _ _ HP1.out).mono ?_); rintro e w2 ⟨rfl, nv2, K2, hP2, hG2⟩; have HK2 := Lib.hid (KR.lit1 (i := a.1) hP2 (HG1.out.trans hG2)); clear hP2 hG2 HA HP1) | (go_at_call 68; (with_reducible refine (HT.out _ _ _ HK2.out.pm).mono ?_); rintro e w3 ⟨rfl, hP3, hF3⟩; have HK3 := Lib.hid (HK2.out.call hP3 hF3); clear hP3 hF3 HT) | (go_at_call 24; (with_reducible refine (HB.out _ _ _ HK3.out.pm).mono ?_); rintro e w4 ⟨rfl, nv4, K4, hP4, hG4⟩; have HK4 := Lib.hid (HK3.out.node hP4 hG4); clear hP4 hG4 HB) | (at_builtin; have q4 := HK4.out.row; refine wpList_int rfl _ _ rfl [a.1] b.1 rfl rfl rfl q4 (by simp) ?_; intro g5 c5 w5 hr5 hat5 hF5; have HK5 := Lib.hid (HK4.out.app hF5 hr5 hat5); clear hr5 hat5 hF5 q4 HK4) | (go_at_call 25; (with_reducible refine (HN.out _ _ _ HK5.out.pm).mono ?_); rintro e w6 ⟨rfl, hF6⟩; have HK6 := Lib.hid (HK5.out.call0 hF6); clear hF6))
      go_wp2_with (first | (refine wpList_field rfl _ _ rfl _ _ _ rfl _ rfl ?_) | (go_at_call 67; (with_reducible refine (HI.out _ _ _ HK6.out.pm).mono ?_); rintro e w7 ⟨v7, nv7, K7, rfl, hK7⟩; obtain ⟨ao7, cp7, rfl, -, -, -⟩ := ownz_form hK7.row.1; have HK7 := Lib.hid (HK6.out.node hK7.pm hK7.go); have HR7 := Lib.hid hK7.row; have HF7 := Lib.hid hK7.fr; have HD7 := Lib.hid (show ∀ k, own1 (.slice ao7 r.1.length cp7) k → ¬ own1 (.slice (some ⟨g5, 0, none⟩) ([a.1].length + 1) c5) k from fun k e e2 => by have h1 := hK7.fr k e; have h2 := (ownz_type HK6.out.row.1 e2).2.1; omega); have HZ7 := Lib.hid (show ∀ k, own1 (.slice ao7 r.1.length cp7) k → W.heap.size ≤ k from fun k e => Nat.le_trans HK6.out.go.fr.size (hK7.fr k e)); clear hK7) | (go_at_call 42; (with_reducible refine (add_kids HK7.out.pm 10 HR7.out HPR.out).mono ?_); rintro e w8 ⟨rfl, nv8, hP8, hG8⟩; have HK8 := Lib.hid (HK7.out.add hP8 hG8 HZ7.out HD7.out); clear hP8 hG8) | (at_builtin; have q8 := HK8.out.row; refine wpList_int rfl _ _ rfl [a.1, b.1] (r.2.add (nd 10 r.1)).1 rfl rfl rfl q8 (by simp) ?_; intro g9 c9 w9 hr9 hat9 hF9; have HK9 := Lib.hid (HK8.out.app hF9 hr9 hat9); clear hr9 hat9 hF9))
      go_ret
      rw [← HV.out]
      exact ⟨_, _, _, rfl, HK9.out⟩
    | false =>
      rw [he] at hb
      simp only [Bool.false_eq_true, if_false] at hb
      have htx := is_txt b.2 _ he
      have HTK := Lib.hid (fun (w : World) (K : Nat → Prop) (nv : Value) (h : PM w n K p g cap all nv b.2) => takes_any h ⟨#[101, 108, 115, 101]⟩ [101, 108, 115, 101] rfl (by decide))
      cases hs : b.2.is [101, 108, 115, 101] with
      | true =>
        rw [hs] at hb HTK
        simp only [if_true] at hb
        have hsa := adv_is (by decide) hs n hi4
        have hmay : b.2.may [101, 108, 115, 101] = b.2.adv := by unfold S.may; rw [if_pos hs]
        rw [hmay] at HTK
        obtain ⟨t5, ht5⟩ : ∃ t5, b.2.adv = t5 := ⟨_, rfl⟩
        rw [ht5] at HTK hsa hb
        have HE5 := Lib.hid (fun (w : World) (K : Nat → Prop) (nv : Value) (h : PM w n K p g cap all nv t5) => HL w K nv t5 h (by have := hsa.2.2.1; omega) (by have := hsa.2.2.1; omega) (by have := hsa.2.2.2; omega))
        obtain ⟨d, hd⟩ : ∃ d, L t5 = d := ⟨_, rfl⟩
        rw [hd] at HE5 hb
        have HV := Lib.hid hb
        clear hb hs hsa hmay ht5 hd he ih hL HL hsz4 hopn4 hpot4 hi4 hwn hp ho ho2
        go_enter Try.func67, Try.ntmps67
        go_upto_region 6 with (first | (refine wpList_field rfl _ _ rfl _ _ _ rfl _ rfl ?_) | (go_at_call 68; (with_reducible refine HX.out.mono ?_); rintro e w1 ⟨rfl, hP1, hF1⟩; have HP1 := Lib.hid hP1; have HG1 := Lib.hid (Go.of (nv := nv) (K := K) hF1); clear hP1 hF1 HX) | (go_at_call 24; (with_reducible refine (HA.out _ _ _ HP1.out).mono ?_); rintro e w2 ⟨rfl, nv2, K2, hP2, hG2⟩; have HK2 := Lib.hid (KR.lit1 (i := a.1) hP2 (HG1.out.trans hG2)); clear hP2 hG2 HA HP1) | (go_at_call 68; (with_reducible refine (HT.out _ _ _ HK2.out.pm).mono ?_); rintro e w3 ⟨rfl, hP3, hF3⟩; have HK3 := Lib.hid (HK2.out.call hP3 hF3); clear hP3 hF3 HT) | (go_at_call 24; (with_reducible refine (HB.out _ _ _ HK3.out.pm).mono ?_); rintro e w4 ⟨rfl, nv4, K4, hP4, hG4⟩; have HK4 := Lib.hid (HK3.out.node hP4 hG4); clear hP4 hG4 HB) | (at_builtin; have q4 := HK4.out.row; refine wpList_int rfl _ _ rfl [a.1] b.1 rfl rfl rfl q4 (by simp) ?_; intro g5 c5 w5 hr5 hat5 hF5; have HK5 := Lib.hid (HK4.out.app hF5 hr5 hat5); clear hr5 hat5 hF5 q4 HK4) | (go_at_call 25; (with_reducible refine (HN.out _ _ _ HK5.out.pm).mono ?_); rintro e w6 ⟨rfl, hF6⟩; have HK6 := Lib.hid (HK5.out.call0 hF6); clear hF6))
        go_wp2_with (first | (refine wpList_field rfl _ _ rfl _ _ _ rfl _ rfl ?_) | (go_at_call 37; (with_reducible refine (HTK.out _ _ _ HK6.out.pm).mono ?_); rintro e w7 ⟨rfl, hP7, hF7⟩; have HK7 := Lib.hid (HK6.out.call hP7 hF7); clear hP7 hF7) | (go_at_call 24; (with_reducible refine (HE5.out _ _ _ HK7.out.pm).mono ?_); rintro e w8 ⟨rfl, nv8, K8, hP8, hG8⟩; have HK8 := Lib.hid (HK7.out.node hP8 hG8); clear hP8 hG8) | (at_builtin; have q8 := HK8.out.row; refine wpList_int rfl _ _ rfl [a.1, b.1] d.1 rfl rfl rfl q8 (by simp) ?_; intro g9 c9 w9 hr9 hat9 hF9; have HK9 := Lib.hid (HK8.out.app hF9 hr9 hat9); clear hr9 hat9 hF9))
        go_ret
        rw [← HV.out]
        exact ⟨_, _, _, rfl, HK9.out⟩
      | false =>
        rw [hs] at hb HTK
        simp only [Bool.false_eq_true, if_false] at hb
        have hmay : b.2.may [101, 108, 115, 101] = b.2 := by unfold S.may; rw [if_neg (by rw [hs]; decide)]
        rw [hmay] at HTK
        have HV := Lib.hid hb
        clear hb hs hmay he ih hL HL hsz4 hopn4 hpot4 hi4 hwn hp ho ho2
        go_enter Try.func67, Try.ntmps67
        go_upto_region 6 with (first | (refine wpList_field rfl _ _ rfl _ _ _ rfl _ rfl ?_) | (go_at_call 68; (with_reducible refine HX.out.mono ?_); rintro e w1 ⟨rfl, hP1, hF1⟩; have HP1 := Lib.hid hP1; have HG1 := Lib.hid (Go.of (nv := nv) (K := K) hF1); clear hP1 hF1 HX) | (go_at_call 24; (with_reducible refine (HA.out _ _ _ HP1.out).mono ?_); rintro e w2 ⟨rfl, nv2, K2, hP2, hG2⟩; have HK2 := Lib.hid (KR.lit1 (i := a.1) hP2 (HG1.out.trans hG2)); clear hP2 hG2 HA HP1) | (go_at_call 68; (with_reducible refine (HT.out _ _ _ HK2.out.pm).mono ?_); rintro e w3 ⟨rfl, hP3, hF3⟩; have HK3 := Lib.hid (HK2.out.call hP3 hF3); clear hP3 hF3 HT) | (go_at_call 24; (with_reducible refine (HB.out _ _ _ HK3.out.pm).mono ?_); rintro e w4 ⟨rfl, nv4, K4, hP4, hG4⟩; have HK4 := Lib.hid (HK3.out.node hP4 hG4); clear hP4 hG4 HB) | (at_builtin; have q4 := HK4.out.row; refine wpList_int rfl _ _ rfl [a.1] b.1 rfl rfl rfl q4 (by simp) ?_; intro g5 c5 w5 hr5 hat5 hF5; have HK5 := Lib.hid (HK4.out.app hF5 hr5 hat5); clear hr5 hat5 hF5 q4 HK4) | (go_at_call 25; (with_reducible refine (HN.out _ _ _ HK5.out.pm).mono ?_); rintro e w6 ⟨rfl, hF6⟩; have HK6 := Lib.hid (HK5.out.call0 hF6); clear hF6))
        go_wp2_with (first | (refine wpList_field rfl _ _ rfl _ _ _ rfl _ rfl ?_) | (go_at_call 37; (with_reducible refine (HTK.out _ _ _ HK6.out.pm).mono ?_); rintro e w7 ⟨rfl, hP7, hF7⟩; have HK7 := Lib.hid (HK6.out.call hP7 hF7); clear hP7 hF7))
        go_ret
        rw [← HV.out]
        exact ⟨_, _, _, rfl, HK7.out⟩
end
end Go.Proofs.Ytoahgblgchmclaa
