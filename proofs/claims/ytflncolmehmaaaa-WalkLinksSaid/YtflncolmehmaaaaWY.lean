/- WalkLinks: the trees that its steps leave. Plain mathematics. -/
import Derived.Test.YtflncolmehmaaaaWX
namespace Go.Proofs.Ytflncolmehmaaaa
open Ino Pa Mo

theorem fput_ok {t : T} {i : Nat} {a : Nat} {s : Bs} (hI : fileE t (i : Int) = 0) (ha : a ≤ (t i).data.length) (hb : a + s.length ≤ 4096) :
    fputP t (i : Int) (a : Int) s = (plainT (upd t i { t i with data := (t i).data.take a ++ (s ++ (t i).data.drop (a + s.length)) }) i, 0) := by
  have hp : putP t (i : Int) (a : Int) s = (upd t i { t i with data := (t i).data.take a ++ (s ++ (t i).data.drop (a + s.length)) }, 0) := by
    unfold putP
    rw [if_neg (by rw [hI]; exact fun q => q rfl), Int.toNat_natCast, if_neg (by omega), if_neg (by omega), Int.toNat_natCast]
  unfold fputP
  rw [hp, Int.toNat_natCast]
  simp only [if_true]
theorem link_ok {t : T} (hs : Sound t) {cwd u g : Int} {s a : Bs} {x d : Nat} {nm : Bs} (hf : findP t cwd u g s = (x, 0)) (hk : (t x).kind ≠ 1) (hx1 : x ≠ 1) (hx : (t x).is = true) (hp : placeP t cwd u g a = ⟨d, nm, false, 0⟩)
    (hd : (t d).is = true) (hdk : (t d).kind = 1) (hn : nameOk nm = true) (he : findE (t d).ents nm = none) (hl : (t d).ents.length < 40) (hm : mayT t d u g 2 = true) (hlk : (lookP t (d : Int) nm).2 = false) (h8 : links t x < 8) :
    linkP t cwd u g s a = (add t d nm x, 0) := by
  have hE := enter_ok (t := t) (d := d) (x := x) (n := nm) (by rw [isI_cast hs.sd]; exact hd) (by rw [isI_cast hs.sd]; exact hx) hdk hn he (fun q => q.elim hx1 (fun q => q.elim (fun r => hk r.1) (fun r => by omega))) hl (fun q => hk q.1)
  unfold linkP
  rw [hf, hp]
  simp only [if_true, if_neg hk, hlk, Bool.false_eq_true, if_false, hm, hE]
theorem rm_ok {t : T} (hs : Sound t) {cwd u g : Int} {s : Bs} {x d : Nat} {nm : Bs} (hp : placeP t cwd u g s = ⟨d, nm, false, 0⟩) (hlk : lookP t (d : Int) nm = (x, true)) (hk : (t x).kind ≠ 1) (hd : (t d).is = true) (hdk : (t d).kind = 1)
    (he : findE (t d).ents nm = some x) (hx : (t x).ents = []) (hm : mayT t d u g 2 = true) (hst : stickyT t u d x = true) (hh : (t x).holds ≠ 0) : rmP t cwd u g s false = (rem t d nm x, 0) := by
  have hN : Normal (rem t d nm x) := by
    intro i
    by_cases e : i = x
    · subst e
      rintro ⟨_, _, _, h4, _⟩
      rw [rem_holds] at h4
      exact hh h4
    · exact rem_alive hs (hs.sd.range d hd).2 he e
  have hr : removeP t (d : Int) nm = (rem t d nm x, 0) := by
    unfold removeP
    rw [if_pos (by rw [isI_cast hs.sd]; exact hd), Int.toNat_natCast, if_pos hdk, he]
    dsimp only
    rw [if_neg (fun q => q hx), goneP_of_normal hN]
  unfold rmP
  rw [hp]
  simp only [if_true, hlk, Bool.false_or, Bool.false_eq_true, false_and, if_false, true_and, if_neg hk, hm, hst, hr]
section
variable (s m : Bs)
def K0 : T := Ino.newP 493 5 5
def K1 : T := madeT K0 5 5 1 [97] 0 2468 2
def K2 : T := plainT (upd K1 2 { K1 2 with data := (K1 2).data.take 0 ++ (s ++ (K1 2).data.drop (0 + s.length)) }) 2
def K3 : T := add (K2 s) 1 [98] 2
def K4 : T := plainT (upd (K3 s) 2 { K3 s 2 with data := (K3 s 2).data.take s.length ++ (m ++ (K3 s 2).data.drop (s.length + m.length)) }) 2
def K5 : T := rem (K4 s m) 1 [97] 2
theorem k0_s : Sound K0 := sound_new _ _ _
theorem k_open : openP K0 1 5 5 [47, 97] 2 true false false 2468 = (K1, 2, 0) :=
  open_new (d := 1) (nm := [97]) (i := 2) k0_s (by decide) (by decide +kernel) (by kernel_rfl) (by kernel_rfl) (by decide +kernel) (by kernel_rfl) (by kernel_rfl) (by decide) (by kernel_rfl) (by decide +kernel) (by kernel_rfl) (by kernel_rfl)
theorem k1_s : Sound K1 := by
  have := sound_open k0_s 1 5 5 [47, 97] 2 true false false 2468
  rw [k_open] at this
  exact this
theorem k_put (hs : s.length ≤ 2000) : fputP K1 2 0 s = (K2 s, 0) :=
  fput_ok (t := K1) (i := 2) (a := 0) (by kernel_rfl) (Nat.zero_le _) (by omega)
theorem k2_data : (K2 s 2).data = s := by
  show [].take 0 ++ (s ++ [].drop (0 + s.length)) = s
  simp
theorem k2_s (hs : s.length ≤ 2000) : Sound (K2 s) := by
  have := sound_fput k1_s 2 0 s
  rw [k_put s hs] at this
  exact this
theorem k_link (hs : s.length ≤ 2000) : linkP (K2 s) 1 5 5 [47, 97] [47, 98] = (K3 s, 0) :=
  link_ok (x := 2) (d := 1) (nm := [98]) (k2_s s hs) (by kernel_rfl) (of_decide_eq_true (by kernel_rfl)) (by decide) (by kernel_rfl) (by kernel_rfl) (by kernel_rfl) (by kernel_rfl) (by decide) (by kernel_rfl) (of_decide_eq_true (by kernel_rfl)) (by kernel_rfl) (by kernel_rfl) (of_decide_eq_true (by kernel_rfl))
theorem k3_s (hs : s.length ≤ 2000) : Sound (K3 s) := by
  have := sound_link (k2_s s hs) 1 5 5 [47, 97] [47, 98]
  rw [k_link s hs] at this
  exact this
theorem k3_data : (K3 s 2).data = s := by
  unfold K3
  rw [add_data, k2_data]
theorem k_put2 (hs : s.length ≤ 2000) (hm : m.length ≤ 2000) : fputP (K3 s) 2 (s.length : Nat) m = (K4 s m, 0) :=
  fput_ok (t := K3 s) (i := 2) (a := s.length) (by kernel_rfl) (by rw [k3_data]; exact Nat.le_refl _) (by omega)
theorem k4_s (hs : s.length ≤ 2000) (hm : m.length ≤ 2000) : Sound (K4 s m) := by
  have := sound_fput (k3_s s hs) 2 (s.length : Nat) m
  rw [k_put2 s m hs hm] at this
  exact this
theorem k4_data : (K4 s m 2).data = s ++ m := by
  show (K3 s 2).data.take s.length ++ (m ++ (K3 s 2).data.drop (s.length + m.length)) = s ++ m
  rw [k3_data, List.take_length, List.drop_eq_nil_of_le (by omega), List.append_nil]
theorem k_findb : findP (K4 s m) 1 5 5 [47, 98] = (2, 0) := by kernel_rfl
theorem k_links : links (K4 s m) 2 = 2 := by kernel_rfl
theorem k_mode : (K4 s m 2).mode = 420 := by kernel_rfl
theorem k_rm (hs : s.length ≤ 2000) (hm : m.length ≤ 2000) : rmP (K4 s m) 1 5 5 [47, 97] false = (K5 s m, 0) :=
  rm_ok (x := 2) (d := 1) (nm := [97]) (k4_s s m hs hm) (by kernel_rfl) (by kernel_rfl) (of_decide_eq_true (by kernel_rfl)) (by kernel_rfl) (by kernel_rfl) (by kernel_rfl) (by kernel_rfl) (by kernel_rfl) (by kernel_rfl) (of_decide_eq_true (by kernel_rfl))
theorem k5_s (hs : s.length ≤ 2000) (hm : m.length ≤ 2000) : Sound (K5 s m) := by
  have := sound_rm (k4_s s m hs hm) 1 5 5 [47, 97] false
  rw [k_rm s m hs hm] at this
  exact this
theorem k_gone : findP (K5 s m) 1 5 5 [97] = (0, 3) := by kernel_rfl
theorem k_stays : findP (K5 s m) 1 5 5 [98] = (2, 0) := by kernel_rfl
theorem k_data : dataP (K5 s m) 2 = s ++ m := by
  have h1 : dataP (K5 s m) 2 = (K5 s m 2).data := by kernel_rfl
  rw [h1]
  unfold K5
  rw [rem_data, k4_data]
end
end Go.Proofs.Ytflncolmehmaaaa
