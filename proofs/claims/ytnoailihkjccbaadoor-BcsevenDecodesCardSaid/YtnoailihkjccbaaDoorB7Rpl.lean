/- The document's Decode as plain functions: the numbers of its endpoints' slice, stage by stage. -/
import Derived.Test.YtnoailihkjccbaaDoorB7Rmk
set_option linter.all false
namespace Go.Proofs.YtnoailihkjccbaaDoor.B7
open Bi Lv Bt

/-- Numbers: those that p names by f, the others by g. -/
def sel (n : Nat) (p : Nat → Bool) (f g : Nat → Int) : List Int := (List.range n).map fun j => if p j then f j else g j
theorem sel_length (n : Nat) (p : Nat → Bool) (f g : Nat → Int) : (sel n p f g).length = n := by simp [sel]
theorem sel_getD (n : Nat) (p : Nat → Bool) (f g : Nat → Int) (j : Nat) (hj : j < n) : (sel n p f g).getD j 0 = if p j then f j else g j := by simp [sel, hj]
theorem sel_ext {n : Nat} {p p' : Nat → Bool} {f f' g g' : Nat → Int} (h : ∀ j, j < n → (if p j then f j else g j) = if p' j then f' j else g' j) : sel n p f g = sel n p' f' g' := by
  refine getD_ext (by rw [sel_length, sel_length]) fun j hj => ?_
  rw [sel_length] at hj
  rw [sel_getD _ _ _ _ _ hj, sel_getD _ _ _ _ _ hj, h j hj]
theorem sel_set {n : Nat} {p p' : Nat → Bool} {f g : Nat → Int} (k : Nat) (h : ∀ j, j < n → (p' j = true ↔ p j = true ∨ j = k)) : (sel n p f g).set k (f k) = sel n p' f g := by
  refine getD_ext (by rw [List.length_set, sel_length, sel_length]) fun j hj => ?_
  rw [List.length_set, sel_length] at hj
  rw [sel_getD _ _ _ _ _ hj]
  by_cases hk : k = j
  · subst hk
    rw [if_pos ((h _ hj).2 (.inr rfl))]
    simp [sel, hj]
  · have e : ((sel n p f g).set k (f k)).getD j 0 = (sel n p f g).getD j 0 := by
      simp [List.getD_eq_getElem?_getD, List.getElem?_set, hk]
    rw [e, sel_getD _ _ _ _ _ hj]
    have := h j hj
    by_cases hp : p j = true
    · rw [if_pos hp, if_pos (this.2 (.inl hp))]
    · rw [if_neg hp, if_neg (fun hq => by rcases this.1 hq with h1 | h1; exact hp h1; omega)]
theorem sel_zero (n : Nat) (p : Nat → Bool) (f : Nat → Int) (h : ∀ j, j < n → p j = false) : sel n p f (fun _ => 0) = List.replicate n 0 := by
  refine getD_ext (by rw [sel_length, List.length_replicate]) fun j hj => ?_
  rw [sel_length] at hj
  rw [sel_getD _ _ _ _ _ hj, h j hj]
  simp [List.getD_eq_getElem?_getD, List.getElem?_replicate, hj]

/-! The stages of the endpoints' numbers: taken, each with its own bit, two with one bit, as colours. -/
def nu (m : Md) (xs : List Nat) (p : Nat) (j : Nat) : Int := num m xs p (j / 4) (j % 4)
theorem nu_bd (m : Md) (xs : List Nat) (p j : Nat) (h : wd m (j % 4) ≤ 16) : 0 ≤ nu m xs p j ∧ nu m xs p j < 65536 := by
  have hG := G_lt xs (cb m p (j % 4) + j / 4 * wd m (j % 4)) (wd m (j % 4))
  have h2 : (2 : Int) ^ wd m (j % 4) ≤ 2 ^ 16 := by
    have : 2 ^ wd m (j % 4) ≤ 2 ^ 16 := Nat.pow_le_pow_right (by omega) h
    exact_mod_cast this
  have hn : nu m xs p j = G xs (cb m p (j % 4) + j / 4 * wd m (j % 4)) (wd m (j % 4)) := rfl
  rw [hn]
  omega
def s1 (m : Md) (xs : List Nat) (p c i : Nat) : List Int := sel (2 * m.P * 4) (fun j => decide (j % 4 < c ∨ (j % 4 = c ∧ j / 4 < i))) (nu m xs p) fun _ => 0
theorem s1_length (m : Md) (xs : List Nat) (p c i : Nat) : (s1 m xs p c i).length = 2 * m.P * 4 := sel_length _ _ _ _
theorem s1_zero (m : Md) (xs : List Nat) (p : Nat) : s1 m xs p 0 0 = List.replicate (2 * m.P * 4) 0 := sel_zero _ _ _ fun j _ => by simp
theorem s1_set (m : Md) (xs : List Nat) (p c i : Nat) (hc : c < 4) : (s1 m xs p c i).set (i * 4 + c) (num m xs p i c) = s1 m xs p c (i + 1) := by
  have e : num m xs p i c = nu m xs p (i * 4 + c) := by unfold nu; rw [show (i * 4 + c) / 4 = i by omega, show (i * 4 + c) % 4 = c by omega]
  rw [e]
  refine sel_set _ fun j hj => ?_
  rw [decide_eq_true_iff, decide_eq_true_iff]
  omega
theorem s1_next (m : Md) (xs : List Nat) (p c : Nat) : s1 m xs p c (2 * m.P) = s1 m xs p (c + 1) 0 := by
  refine sel_ext fun j hj => ?_
  have : j / 4 < 2 * m.P := by omega
  by_cases h : j % 4 < c ∨ (j % 4 = c ∧ j / 4 < 2 * m.P)
  · rw [if_pos (decide_eq_true h), if_pos (decide_eq_true (by omega))]
  · rw [if_neg (by rw [decide_eq_true_iff]; exact h), if_neg (by rw [decide_eq_true_iff]; omega)]
/-- Each endpoint's number and its own bit; i endpoints done, of the next one c channels. -/
def e2 (m : Md) (xs : List Nat) (p : Nat) (j : Nat) : Int := 2 * nu m xs p j + G xs (cb m p 4 + j / 4) 1
def s2 (m : Md) (xs : List Nat) (p k : Nat) : List Int := sel (2 * m.P * 4) (fun j => decide (j < k)) (e2 m xs p) (nu m xs p)
theorem s2_length (m : Md) (xs : List Nat) (p k : Nat) : (s2 m xs p k).length = 2 * m.P * 4 := sel_length _ _ _ _
theorem s2_set (m : Md) (xs : List Nat) (p k : Nat) : (s2 m xs p k).set k (e2 m xs p k) = s2 m xs p (k + 1) := by
  refine sel_set _ fun j hj => ?_
  rw [decide_eq_true_iff, decide_eq_true_iff]
  omega
theorem s2_at (m : Md) (xs : List Nat) (p k : Nat) (hk : k < 2 * m.P * 4) : (s2 m xs p k).getD k 0 = nu m xs p k := by
  unfold s2
  rw [sel_getD _ _ _ _ _ hk, if_neg (by rw [decide_eq_true_iff]; omega)]
theorem s1_s2 (m : Md) (xs : List Nat) (p : Nat) : s1 m xs p 4 0 = s2 m xs p 0 := by
  refine sel_ext fun j hj => ?_
  rw [if_pos (decide_eq_true (by omega)), if_neg (by rw [decide_eq_true_iff]; omega)]
/-- Two endpoints with one bit: the pairs ahead of pair i done, of this pair c channels (and of the next channel d of the two). -/
def e3 (m : Md) (xs : List Nat) (p : Nat) (j : Nat) : Int := 2 * nu m xs p j + G xs (cb m p 4 + j / 8) 1
def s3 (m : Md) (xs : List Nat) (p i c d : Nat) : List Int := sel (2 * m.P * 4) (fun j => decide (j / 8 < i ∨ (j / 8 = i ∧ (j % 4 < c ∨ (j % 4 = c ∧ j / 4 % 2 < d))))) (e3 m xs p) (nu m xs p)
theorem s3_length (m : Md) (xs : List Nat) (p i c d : Nat) : (s3 m xs p i c d).length = 2 * m.P * 4 := sel_length _ _ _ _
theorem s3_set (m : Md) (xs : List Nat) (p i c d : Nat) (hc : c < 4) (hd : d < 2) : (s3 m xs p i c d).set ((2 * i + d) * 4 + c) (e3 m xs p ((2 * i + d) * 4 + c)) = s3 m xs p i c (d + 1) := by
  refine sel_set _ fun j hj => ?_
  rw [decide_eq_true_iff, decide_eq_true_iff]
  omega
theorem s3_at (m : Md) (xs : List Nat) (p i c d : Nat) (hc : c < 4) (hd : d < 2) (hi : i < m.P) : (s3 m xs p i c d).getD ((2 * i + d) * 4 + c) 0 = nu m xs p ((2 * i + d) * 4 + c) := by
  unfold s3
  rw [sel_getD _ _ _ _ _ (by omega), if_neg (by rw [decide_eq_true_iff]; omega)]
theorem s3_chan (m : Md) (xs : List Nat) (p i c : Nat) : s3 m xs p i c 2 = s3 m xs p i (c + 1) 0 := by
  unfold s3
  congr 1
  funext j
  rw [Bool.eq_iff_iff, decide_eq_true_iff, decide_eq_true_iff]
  omega
theorem s3_pair (m : Md) (xs : List Nat) (p i : Nat) : s3 m xs p i 4 0 = s3 m xs p (i + 1) 0 0 := by
  unfold s3
  congr 1
  funext j
  rw [Bool.eq_iff_iff, decide_eq_true_iff, decide_eq_true_iff]
  omega
theorem s2_s3 (m : Md) (xs : List Nat) (p : Nat) : s2 m xs p 0 = s3 m xs p 0 0 0 := by
  refine sel_ext fun j hj => ?_
  rw [if_neg (by rw [decide_eq_true_iff]; omega), if_neg (by rw [decide_eq_true_iff]; omega)]
/-- The numbers with their bits, in whatever mode. -/
def mid (m : Md) (xs : List Nat) (p : Nat) (j : Nat) : Int := nu m xs p j * 2 ^ ex m + mo m xs (cb m p 4) (j / 4)
theorem mid_none (m : Md) (xs : List Nat) (p : Nat) (hE : m.E = 0) (hO : m.O = 0) : s2 m xs p 0 = sel (2 * m.P * 4) (fun _ => false) (nu m xs p) (mid m xs p) := by
  refine sel_ext fun j hj => ?_
  have hx : ex m = 0 := by unfold ex; omega
  rw [if_neg (by rw [decide_eq_true_iff]; omega), if_neg (by simp)]
  unfold mid mo
  rw [hx, G_zero]
  omega
theorem mid_each (m : Md) (xs : List Nat) (p : Nat) (hE : m.E = 1) (hO : m.O = 0) : s2 m xs p (2 * m.P * 4) = sel (2 * m.P * 4) (fun _ => false) (nu m xs p) (mid m xs p) := by
  refine sel_ext fun j hj => ?_
  have hx : ex m = 1 := by unfold ex; omega
  rw [if_pos (decide_eq_true hj), if_neg (by simp)]
  unfold mid mo e2 mat
  rw [hx, if_pos hO, hE, Nat.mul_one]
  omega
theorem mid_both (m : Md) (xs : List Nat) (p : Nat) (hE : m.E = 0) (hO : m.O = 1) : s3 m xs p m.P 0 0 = sel (2 * m.P * 4) (fun _ => false) (nu m xs p) (mid m xs p) := by
  refine sel_ext fun j hj => ?_
  have hx : ex m = 1 := by unfold ex; omega
  rw [if_pos (decide_eq_true (by omega)), if_neg (by simp)]
  unfold mid mo e3 mat
  rw [hx, if_neg (by omega), show j / 4 / 2 = j / 8 by omega]
  omega
/-- The colours; the first k numbers of them laid. -/
def e4 (m : Md) (xs : List Nat) (p : Nat) (j : Nat) : Int := if j % 4 = 3 ∧ m.A = 0 then 255 else wideV (mid m xs p j) ((wd m (j % 4) : Int) + (ex m : Int))
def s4 (m : Md) (xs : List Nat) (p k : Nat) : List Int := sel (2 * m.P * 4) (fun j => decide (j < k)) (e4 m xs p) (mid m xs p)
theorem s4_length (m : Md) (xs : List Nat) (p k : Nat) : (s4 m xs p k).length = 2 * m.P * 4 := sel_length _ _ _ _
theorem s4_zero (m : Md) (xs : List Nat) (p : Nat) : sel (2 * m.P * 4) (fun _ => false) (nu m xs p) (mid m xs p) = s4 m xs p 0 := by
  refine sel_ext fun j hj => ?_
  rw [if_neg (by simp), if_neg (by rw [decide_eq_true_iff]; omega)]
theorem s4_set (m : Md) (xs : List Nat) (p k : Nat) : (s4 m xs p k).set k (e4 m xs p k) = s4 m xs p (k + 1) := by
  refine sel_set _ fun j hj => ?_
  rw [decide_eq_true_iff, decide_eq_true_iff]
  omega
theorem s4_at (m : Md) (xs : List Nat) (p k : Nat) (hk : k < 2 * m.P * 4) : (s4 m xs p k).getD k 0 = mid m xs p k := by
  unfold s4
  rw [sel_getD _ _ _ _ _ hk, if_neg (by rw [decide_eq_true_iff]; omega)]
theorem e4_ep (m : Md) (xs : List Nat) (p i c : Nat) (hc : c < 4) : e4 m xs p (i * 4 + c) = (epV m xs p i).getD c 0 := by
  unfold e4 mid nu
  rw [show (i * 4 + c) / 4 = i by omega, show (i * 4 + c) % 4 = c by omega]
  obtain rfl | rfl | rfl | rfl : c = 0 ∨ c = 1 ∨ c = 2 ∨ c = 3 := by omega
  · rw [if_neg (by omega)]; rfl
  · rw [if_neg (by omega)]; rfl
  · rw [if_neg (by omega)]; rfl
  · by_cases hA : m.A = 0
    · rw [if_pos ⟨rfl, hA⟩]
      show _ = (colV m _ _).getD 3 0
      rw [colV, if_pos hA]
      rfl
    · rw [if_neg (by omega)]
      show _ = (colV m _ _).getD 3 0
      rw [colV, if_neg hA]
      rfl
/-- An endpoint's four numbers, as they lie in the slice and in the program's array. -/
theorem s4_row (m : Md) (xs : List Nat) (p i : Nat) (hi : i < 2 * m.P) (h3 : m.P ≤ 3) : ((s4 m xs p (2 * m.P * 4)).drop (i * 4)).take 4 = ((enV m xs p).drop (i * 4)).take 4 := by
  rw [show ((enV m xs p).drop (i * 4)).take 4 = epV m xs p i from fl_row _ _ (fun i => epV_length m xs p i) _ (by rw [z24_length]; omega) i hi]
  refine getD_ext (by rw [List.length_take, List.length_drop, s4_length, epV_length]; omega) fun j hj => ?_
  have hj4 : j < 4 := by rw [List.length_take] at hj; omega
  have e : (((s4 m xs p (2 * m.P * 4)).drop (i * 4)).take 4).getD j 0 = (s4 m xs p (2 * m.P * 4)).getD (i * 4 + j) 0 := by
    rw [List.getD_eq_getElem?_getD, List.getElem?_take, if_pos hj4, List.getElem?_drop, ← List.getD_eq_getElem?_getD]
  rw [e, s4, sel_getD _ _ _ _ _ (by omega), if_pos (decide_eq_true (by omega)), e4_ep m xs p i j hj4]
end Go.Proofs.YtnoailihkjccbaaDoor.B7
