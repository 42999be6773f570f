/- The image of all the tiles that were gathered from an image is that image: plain lists. -/
import Derived.Test.YteamgegmcmcijaaImPure
namespace Go.Proofs.Yteamgegmcmcijaa
namespace Im

/-- The first i tiles of an image, a to a row, one behind the other. -/
def gats (W H : Int) (xs : List Nat) (a : Nat) : Nat → List Int
  | 0 => []
  | i + 1 => gats W H xs a i ++ gatK W H xs ((i % a : Nat) : Int) ((i / a : Nat) : Int) 16
theorem gats_length (W H : Int) (xs : List Nat) (a : Nat) : ∀ i, (gats W H xs a i).length = i * 64
  | 0 => by simp [gats]
  | i + 1 => by rw [gats, List.length_append, gats_length W H xs a i, gatK_length]; omega
theorem gats_at (W H : Int) (xs : List Nat) (a : Nat) : ∀ i k, k < i → ((gats W H xs a i).drop (k * 64)).take 64 = gatK W H xs ((k % a : Nat) : Int) ((k / a : Nat) : Int) 16
  | 0, k, h => absurd h (by omega)
  | i + 1, k, h => by
    have hl := gats_length W H xs a i
    rw [gats]
    by_cases e : k = i
    · subst e
      rw [List.drop_append_of_le_length (by omega), List.drop_eq_nil_of_le (by omega), List.nil_append, List.take_of_length_le (by rw [gatK_length]; omega)]
    · have hk : k < i := by omega
      rw [List.drop_append_of_le_length (by omega), List.take_append_of_le_length (by rw [List.length_drop, hl]; omega)]
      exact gats_at W H xs a i k hk

theorem has_at {W H : Int} {n a d k : Nat} (hr : rightP W H n) (ha : tl W H = (a : Int)) (hd : tl H W = (d : Int)) (h0 : 0 < a) (hk : k < a * d) : hasP W H n ((k % a : Nat) : Int) ((k / a : Nat) : Int) := by
  have h1 := Nat.mod_lt k h0
  have h2 : k / a < d := Nat.div_lt_of_lt_mul hk
  refine ⟨hr, ?_⟩
  rw [ha, hd]
  generalize k % a = q at *
  generalize k / a = r at *
  exact ⟨by omega, by omega, by omega, by omega⟩

/-- A byte of the image of the first i tiles. -/
theorem whK_getD {W H : Int} {n a d : Nat} (xs : List Nat) (hx : ∀ x ∈ xs, x < 256) (hl : xs.length = n) (hr : rightP W H n) (ha : tl W H = (a : Int)) (hd : tl H W = (d : Int)) (h0 : 0 < a) {X Y : Int} (hi : insP X Y W H) {c : Nat} (hc : c < 4) : ∀ i, i ≤ a * d →
    (whK W H n a (gats W H xs a (a * d)) i).getD (plc W X Y + c) 0 = if (Y / 4).toNat * a + (X / 4).toNat < i then xs.getD (plc W X Y + c) 0 else 0 := by
  intro i
  have hi' := hi
  obtain ⟨i1, i2, i3, i4⟩ := hi
  have hp := plc_ok hr hi'
  have hsz := hr.1
  unfold szP at hsz
  rw [tl, if_neg (by omega)] at ha hd
  have hXa : (X / 4).toNat < a := by omega
  induction i with
  | zero =>
    intro _
    rw [if_neg (by omega), whK]
    simp [List.getElem?_replicate]
    split <;> rfl
  | succ i ih =>
    intro hk
    have ih := ih (by omega)
    have hh : hasP W H n ((i % a : Nat) : Int) ((i / a : Nat) : Int) := has_at hr (by rw [tl, if_neg (by omega)]; exact ha) (by rw [tl, if_neg (by omega)]; exact hd) h0 (by omega)
    rw [whK, layK_getD _ _ hh (whK_length _ _ _ _ _ _) hi' hc 16 (by omega), ih, gats_at _ _ _ _ _ _ (by omega)]
    have hdm := Nat.div_add_mod i a
    have hml := Nat.mod_lt i h0
    by_cases e : i = (Y / 4).toNat * a + (X / 4).toNat
    · have e1 : i % a = (X / 4).toNat := by
        rw [e, Nat.mul_comm, Nat.mul_add_mod, Nat.mod_eq_of_lt hXa]
      have e2 : i / a = (Y / 4).toNat := by
        rw [e, Nat.mul_comm, Nat.mul_add_div h0, Nat.div_eq_of_lt hXa, Nat.add_zero]
      have h16 : (Y % 4 * 4 + X % 4).toNat < 16 := by omega
      rw [if_pos ⟨by rw [e1]; omega, by rw [e2]; omega, by omega⟩, if_pos (by omega), ← tx_getD _ _ _ hc, gatK_tx _ _ _ _ _ 16 (by omega) _ h16, e1, e2,
        show ((X / 4).toNat : Int) * 4 + (((Y % 4 * 4 + X % 4).toNat : Nat) : Int) % 4 = X from by omega, show ((Y / 4).toNat : Int) * 4 + (((Y % 4 * 4 + X % 4).toNat : Nat) : Int) / 4 = Y from by omega,
        show mn X (W - 1) = X from by unfold mn; split <;> omega, show mn Y (H - 1) = Y from by unfold mn; split <;> omega, tex_getD _ _ _ hc]
      refine cl_byte _ ?_
      have hj : plc W X Y + c < xs.length := by omega
      have := hx (xs[plc W X Y + c]) (List.getElem_mem hj)
      simpa [List.getD_eq_getElem?_getD, List.getElem?_eq_getElem hj] using this
    · rw [if_neg (by
        rintro ⟨g1, g2, _⟩
        apply e
        have e1 : i % a = (X / 4).toNat := by omega
        have e2 : i / a = (Y / 4).toNat := by omega
        rw [← e1, ← e2, Nat.mul_comm]
        exact hdm.symm)]
      by_cases e3 : (Y / 4).toNat * a + (X / 4).toNat < i
      · rw [if_pos e3, if_pos (by omega)]
      · rw [if_neg e3, if_neg (by omega)]

theorem whole_back {W H : Int} {n a d : Nat} (xs : List Nat) (hx : ∀ x ∈ xs, x < 256) (hl : xs.length = n) (hr : rightP W H n) (ha : tl W H = (a : Int)) (hd : tl H W = (d : Int)) (h0 : 0 < a) :
    whK W H n a (gats W H xs a (a * d)) (a * d) = xs := by
  refine List.ext_getElem (by rw [whK_length, hl]) fun j h1 h2 => ?_
  obtain ⟨hs, hn⟩ := hr
  have hs' := hs
  unfold szP at hs
  have hj : j < n := by omega
  obtain ⟨w, hw⟩ : ∃ w : Nat, W = (w : Int) := ⟨W.toNat, by omega⟩
  obtain ⟨h, hh⟩ : ∃ h : Nat, H = (h : Int) := ⟨H.toNat, by omega⟩
  subst hw hh
  have hn' : n = 4 * (w * h) := by
    have : (n : Int) = ((4 * (w * h) : Nat) : Int) := by rw [hn]; push_cast; rw [Int.mul_assoc]
    exact_mod_cast this
  have hw0 : 0 < w := by omega
  have hq : j / 4 < w * h := by omega
  have hdm := Nat.div_add_mod (j / 4) w
  have hml := Nat.mod_lt (j / 4) hw0
  have hdl : j / 4 / w < h := Nat.div_lt_of_lt_mul hq
  have hi : insP ((j / 4 % w : Nat) : Int) ((j / 4 / w : Nat) : Int) (w : Int) (h : Int) := by
    generalize j / 4 % w = p at *
    generalize j / 4 / w = q at *
    exact ⟨by omega, by omega, by omega, by omega⟩
  have hp : plc (w : Int) ((j / 4 % w : Nat) : Int) ((j / 4 / w : Nat) : Int) = 4 * (j / 4) := by
    have e : (((j / 4 / w : Nat) : Int) * (w : Int) + ((j / 4 % w : Nat) : Int)) = ((j / 4 : Nat) : Int) := by
      have : ((w * (j / 4 / w) + j / 4 % w : Nat) : Int) = ((j / 4 : Nat) : Int) := by rw [hdm]
      rw [← this]
      push_cast
      rw [Int.mul_comm]
    unfold plc
    rw [e]
    omega
  have key := whK_getD xs hx hl ⟨hs', hn⟩ ha hd h0 hi (c := j % 4) (Nat.mod_lt _ (by omega)) (a * d) (Nat.le_refl _)
  rw [hp, show 4 * (j / 4) + j % 4 = j from by omega] at key
  rw [if_pos] at key
  · simpa [List.getD_eq_getElem?_getD, List.getElem?_eq_getElem h1, List.getElem?_eq_getElem h2] using key
  · rw [tl, if_neg (by omega)] at ha hd
    generalize j / 4 % w = p at *
    generalize j / 4 / w = q at *
    have a1 : ((p : Int) / 4).toNat < a := by omega
    have a2 : ((q : Int) / 4).toNat < d := by omega
    generalize ((p : Int) / 4).toNat = p' at *
    generalize ((q : Int) / 4).toNat = q' at *
    have : (q' + 1) * a ≤ d * a := Nat.mul_le_mul_right a a2
    rw [Nat.add_mul, Nat.one_mul, Nat.mul_comm d a] at this
    omega
end Im
end Go.Proofs.Yteamgegmcmcijaa
