/- Blocks of two halves as plain functions: a block's parts out of its bytes, its bytes out of its parts, its colours and texels; no program. -/
import Derived.Test.YtgcijioiicmjiaaDoorBcJoinP
import Derived.Test.YtgcijioiicmjiaaDoorBitRef
import Derived.Test.YtgcijioiicmjiaaDoorG2
import Derived.Test.YtgcijioiicmjiaaDoorG1
set_option linter.all false
namespace Go.Proofs.YtgcijioiicmjiaaDoor
open Bi Lv
namespace Eo

/-- The place of a texel: column by column. -/
def pos (i : Nat) : Nat := 4 * (i % 4) + i / 4
theorem pos_lt {i : Nat} (h : i < 16) : pos i < 16 := by unfold pos; omega
/-! Bits and numbers. -/
theorem getN_bit (xs : List Nat) (p m k : Nat) : (getN xs true p m).testBit k = (decide (k < m) && bt xs true (p + (m - 1 - k))) := by
  unfold getN; rw [nm_bit]; simp
theorem getN1 (xs : List Nat) (p : Nat) : getN xs true p 1 = (bt xs true p).toNat := by
  unfold getN; simp [nm]
theorem getN_lt' (xs : List Nat) (p m : Nat) : getN xs true p m < 2 ^ m := nm_lt _ m
theorem part_bit (xs : List Nat) (p k : Nat) (h : k < 16) : getN xs true p 16 / 2 ^ k % 2 = getN xs true (p + 15 - k) 1 := by
  rw [bit_div, getN_bit, getN1]
  simp [h]
  congr 2
  omega
/-- A block's two widths. -/
def w1 (d : Bool) : Nat := if d then 5 else 4
def w2 (d : Bool) : Nat := if d then 3 else 4
theorem w_sum (d : Bool) : w1 d + w2 d = 8 := by cases d <;> rfl
theorem w1_bd (d : Bool) : 4 ≤ w1 d ∧ w1 d ≤ 5 := by cases d <;> decide
theorem w2_bd (d : Bool) : 3 ≤ w2 d ∧ w2 d ≤ 4 := by cases d <;> decide
def sg (d : Bool) (n : Int) : Int := if d = true ∧ 4 ≤ n then n - 8 else n
def G (xs : List Nat) (p m : Nat) : Int := ((getN xs true p m : Nat) : Int)
theorem G_bd (xs : List Nat) (p m : Nat) : 0 ≤ G xs p m ∧ G xs p m < ((2 ^ m : Nat) : Int) := by
  have := getN_lt' xs p m
  unfold G; omega
def pD (xs : List Nat) : Bool := bt xs true 30
def pF (xs : List Nat) : Bool := bt xs true 31
theorem pD_G (xs : List Nat) : (G xs 30 1 == 1) = pD xs := by unfold G pD; rw [getN1]; cases bt xs true 30 <;> rfl
theorem pF_G (xs : List Nat) : (G xs 31 1 == 1) = pF xs := by unfold G pF; rw [getN1]; cases bt xs true 31 <;> rfl
/-- The 24 numbers of a block's parts. -/
def val (xs : List Nat) (j : Nat) : Int :=
  if j < 3 then G xs (8 * j) (w1 (pD xs)) else if j < 6 then sg (pD xs) (G xs (8 * (j - 3) + w1 (pD xs)) (w2 (pD xs))) else if j < 8 then G xs (24 + 3 * (j - 6)) 3 else 2 * G xs (47 - pos (j - 8)) 1 + G xs (63 - pos (j - 8)) 1
theorem val_a (xs : List Nat) (c : Nat) (h : c < 3) : val xs c = G xs (8 * c) (w1 (pD xs)) := by unfold val; rw [if_pos h]
theorem val_b (xs : List Nat) (c : Nat) (h : c < 3) : val xs (3 + c) = sg (pD xs) (G xs (8 * c + w1 (pD xs)) (w2 (pD xs))) := by
  unfold val; rw [if_neg (by omega), if_pos (by omega), show 3 + c - 3 = c by omega]
theorem val_t (xs : List Nat) (k : Nat) (h : k < 2) : val xs (6 + k) = G xs (24 + 3 * k) 3 := by
  unfold val; rw [if_neg (by omega), if_neg (by omega), if_pos (by omega), show 6 + k - 6 = k by omega]
theorem val_w (xs : List Nat) (i : Nat) : val xs (8 + i) = 2 * G xs (47 - pos i) 1 + G xs (63 - pos i) 1 := by
  unfold val; rw [if_neg (by omega), if_neg (by omega), if_neg (by omega), show 8 + i - 8 = i by omega]

/-- 24 numbers, those of S alone. -/
def pv (f : Nat → Int) (S : Nat → Bool) : List Int := (List.range 24).map fun j => if S j then f j else 0
theorem pv_length (f : Nat → Int) (S : Nat → Bool) : (pv f S).length = 24 := by simp [pv]
theorem pv_getD (f : Nat → Int) (S : Nat → Bool) (j : Nat) (h : j < 24) : (pv f S).getD j 0 = if S j then f j else 0 := by simp [pv, h]
theorem getD_ext {xs ys : List Int} (hl : xs.length = ys.length) (h : ∀ j, j < xs.length → xs.getD j 0 = ys.getD j 0) : xs = ys := by
  apply List.ext_getElem hl
  intro j h1 h2
  have := h j h1
  simpa [List.getD_eq_getElem?_getD, List.getElem?_eq_getElem h1, List.getElem?_eq_getElem h2] using this
theorem getD_seti (xs : List Int) (j k : Nat) (v : Int) (h : j < xs.length) : (xs.set j v).getD k 0 = if k = j then v else xs.getD k 0 := by
  simp only [List.getD_eq_getElem?_getD, List.getElem?_set]
  by_cases hk : k = j
  · subst hk; simp [h]
  · simp [hk, show ¬ j = k from fun h => hk h.symm]
theorem pv_congr {f : Nat → Int} {S S' : Nat → Bool} (h : ∀ j, j < 24 → S j = S' j) : pv f S = pv f S' := by
  unfold pv
  apply List.map_congr_left
  intro j hj
  rw [h j (by simpa using hj)]
theorem pv_set {f : Nat → Int} {S S' : Nat → Bool} {j : Nat} {v : Int} (hj : j < 24) (hv : v = f j) (h : ∀ i, i < 24 → S' i = (S i || decide (i = j))) : (pv f S).set j v = pv f S' := by
  subst hv
  refine getD_ext (by simp [pv_length]) fun i hi => ?_
  rw [List.length_set, pv_length] at hi
  rw [getD_seti _ _ _ _ (by rw [pv_length]; exact hj), pv_getD _ _ _ hi, pv_getD _ _ _ hi, h i hi]
  by_cases hij : i = j
  · subst hij; simp
  · simp [hij]
theorem pv_spl {f : Nat → Int} {S S' : Nat → Bool} {o : Nat} {ys : List Int} (ho : o + ys.length ≤ 24) (hv : ∀ k, k < ys.length → ys.getD k 0 = f (o + k)) (h : ∀ i, i < 24 → S' i = (S i || decide (o ≤ i ∧ i < o + ys.length))) : spl (pv f S) o ys = pv f S' := by
  refine getD_ext (by rw [spl_length, pv_length, pv_length]) fun i hi => ?_
  rw [spl_length, pv_length] at hi
  rw [spl_getD _ _ _ _ (by rw [pv_length]; exact ho), pv_getD _ _ _ hi, pv_getD _ _ _ hi, h i hi]
  by_cases hij : o ≤ i ∧ i < o + ys.length
  · rw [if_pos hij, hv (i - o) (by omega), show o + (i - o) = i by omega]
    simp [hij]
  · rw [if_neg hij]
    simp [hij]
def z24 : List Int := [0, 0, 0, 0, 0, 0, 0, 0, 0, 0, 0, 0, 0, 0, 0, 0, 0, 0, 0, 0, 0, 0, 0, 0]
theorem z24_length : z24.length = 24 := rfl
theorem pv_none (f : Nat → Int) : pv f (fun _ => false) = z24 := by unfold pv; simp [z24, List.range_succ]
/-- What the loops have laid: c of the pairs of numbers; so many of all. -/
def sC (c : Nat) (j : Nat) : Bool := decide (j < 6 ∧ j % 3 < c)
def sN (n : Nat) (j : Nat) : Bool := decide (j < n)
def pP (xs : List Nat) (S : Nat → Bool) : List Int := pv (val xs) S
def pZ (xs : List Nat) : List Int := pv (val xs) (sN 24)
theorem pZ_length (xs : List Nat) : (pZ xs).length = 24 := pv_length _ _
theorem pZ_getD (xs : List Nat) (j : Nat) (h : j < 24) : (pZ xs).getD j 0 = val xs j := by
  unfold pZ; rw [pv_getD _ _ _ h, if_pos (by simpa [sN] using h)]
theorem pP_zero (xs : List Nat) : pP xs (sC 0) = z24 := by
  unfold pP; rw [← pv_none (val xs)]; exact pv_congr fun j _ => by simp [sC]
theorem pP_pair (xs : List Nat) (c : Nat) (h : c < 3) (a b : Int) (ha : a = val xs c) (hb : b = val xs (3 + c)) : ((pP xs (sC c)).set c a).set (3 + c) b = pP xs (sC (c + 1)) := by
  unfold pP
  rw [pv_set (S' := fun i => sC c i || decide (i = c)) (by omega) ha fun _ _ => rfl, pv_set (by omega) hb fun i hi => ?_]
  simp only [sC]
  rw [Bool.eq_iff_iff]
  simp only [Bool.or_eq_true, decide_eq_true_eq]
  omega
theorem pP_mid (xs : List Nat) : pP xs (sC 3) = pP xs (sN 6) := pv_congr fun j _ => by
  simp only [sC, sN]; rw [Bool.eq_iff_iff]; simp only [decide_eq_true_eq]; omega
theorem pP_one (xs : List Nat) (n : Nat) (h : n < 24) (a : Int) (ha : a = val xs n) : (pP xs (sN n)).set n a = pP xs (sN (n + 1)) :=
  pv_set h ha fun i hi => by
    simp only [sN]; rw [Bool.eq_iff_iff]; simp only [Bool.or_eq_true, decide_eq_true_eq]; omega
theorem pP_some (xs : List Nat) (n m : Nat) (ys : List Int) (hl : ys.length = m) (h : n + m ≤ 24) (hv : ∀ k, k < m → ys.getD k 0 = val xs (n + k)) : spl (pP xs (sN n)) n ys = pP xs (sN (n + m)) := by
  subst hl
  exact pv_spl h hv fun i hi => by
    simp only [sN]; rw [Bool.eq_iff_iff]; simp only [Bool.or_eq_true, decide_eq_true_eq]; omega
theorem pP_full (xs : List Nat) : pP xs (sN 24) = pZ xs := rfl
theorem pP_length (xs : List Nat) (S : Nat → Bool) : (pP xs S).length = 24 := pv_length _ _
/-- The numbers of the texels alone. -/
def whV (xs : List Nat) (k : Nat) : List Int := (List.range 16).map fun i => if i < k then val xs (8 + i) else 0
theorem whV_length (xs : List Nat) (k : Nat) : (whV xs k).length = 16 := by simp [whV]
theorem whV_getD (xs : List Nat) (k i : Nat) (h : i < 16) : (whV xs k).getD i 0 = if i < k then val xs (8 + i) else 0 := by simp [whV, h]
theorem whV_set (xs : List Nat) (k : Nat) (h : k < 16) (a : Int) (ha : a = val xs (8 + k)) : (whV xs k).set k a = whV xs (k + 1) := by
  subst ha
  refine getD_ext (by simp [whV_length]) fun i hi => ?_
  rw [List.length_set, whV_length] at hi
  rw [getD_seti _ _ _ _ (by rw [whV_length]; exact h), whV_getD _ _ _ hi, whV_getD _ _ _ hi]
  by_cases hik : i = k
  · subst hik; simp
  · rw [if_neg hik]
    by_cases h2 : i < k
    · rw [if_pos h2, if_pos (by omega)]
    · rw [if_neg h2, if_neg (by omega)]
theorem whV_zero (xs : List Nat) : whV xs 0 = [0, 0, 0, 0, 0, 0, 0, 0, 0, 0, 0, 0, 0, 0, 0, 0] := by unfold whV; simp [List.range_succ]

/-! Which parts may be. -/
def lo (d : Bool) (j : Nat) : Int := if (3 ≤ j ∧ j < 6) ∧ d = true then -4 else 0
def hi (d : Bool) (j : Nat) : Int := if j < 3 then (if d = true then 32 else 16) else if j < 6 then (if d = true then 4 else 16) else if j < 8 then 8 else 4
def okP (d : Bool) (Z : List Int) : Prop := ∀ j, j < 24 → lo d j ≤ Z.getD j 0 ∧ Z.getD j 0 < hi d j
instance (d : Bool) (Z : List Int) : Decidable (okP d Z) := inferInstanceAs (Decidable (∀ j, j < 24 → _))
theorem ok_a {d : Bool} {Z : List Int} (h : okP d Z) {c : Nat} (hc : c < 3) : 0 ≤ Z.getD c 0 ∧ Z.getD c 0 < ((2 ^ w1 d : Nat) : Int) := by
  have := h c (by omega)
  unfold lo hi at this
  rw [if_neg (by omega), if_pos hc] at this
  cases d <;> simpa [w1] using this
theorem ok_b {d : Bool} {Z : List Int} (h : okP d Z) {c : Nat} (hc : c < 3) : (d = true → -4 ≤ Z.getD (3 + c) 0 ∧ Z.getD (3 + c) 0 < 4) ∧ (d = false → 0 ≤ Z.getD (3 + c) 0 ∧ Z.getD (3 + c) 0 < 16) := by
  have := h (3 + c) (by omega)
  unfold lo hi at this
  rw [if_neg (show ¬ 3 + c < 3 by omega), if_pos (show 3 + c < 6 by omega)] at this
  cases d
  · refine ⟨fun h => (by cases h), fun _ => ?_⟩
    simpa using this
  · refine ⟨fun _ => ?_, fun h => (by cases h)⟩
    simpa [show 3 ≤ 3 + c ∧ 3 + c < 6 from by omega] using this
theorem ok_w {d : Bool} {Z : List Int} (h : okP d Z) {i : Nat} (hi' : i < 16) : 0 ≤ Z.getD (8 + i) 0 ∧ Z.getD (8 + i) 0 < 4 := by
  have := h (8 + i) (by omega)
  unfold lo hi at this
  rwa [if_neg (by omega), if_neg (by omega), if_neg (by omega), if_neg (by omega)] at this
theorem sg_bd (xs : List Nat) (d : Bool) (p : Nat) : (d = true → -4 ≤ sg d (G xs p (w2 d)) ∧ sg d (G xs p (w2 d)) < 4) ∧ (d = false → 0 ≤ sg d (G xs p (w2 d)) ∧ sg d (G xs p (w2 d)) < 16) := by
  have h := G_bd xs p (w2 d)
  cases d
  · refine ⟨fun h => (by cases h), fun _ => ?_⟩
    have e : ((2 ^ w2 false : Nat) : Int) = 16 := rfl
    rw [e] at h
    unfold sg
    rw [if_neg (by simp)]
    exact h
  · refine ⟨fun _ => ?_, fun h => (by cases h)⟩
    have e : ((2 ^ w2 true : Nat) : Int) = 8 := rfl
    rw [e] at h
    unfold sg
    by_cases h4 : 4 ≤ G xs p (w2 true)
    · rw [if_pos ⟨rfl, h4⟩]; omega
    · rw [if_neg (fun k => h4 k.2)]; omega
theorem ok_parts (xs : List Nat) : okP (pD xs) (pZ xs) := by
  intro j hj
  rw [pZ_getD _ _ hj]
  unfold lo hi
  by_cases h1 : j < 3
  · rw [if_neg (by omega), if_pos h1, val_a _ _ h1]
    have h := G_bd xs (8 * j) (w1 (pD xs))
    revert h
    cases pD xs <;> simp [w1]
  · by_cases h2 : j < 6
    · obtain ⟨c, rfl⟩ : ∃ c, j = 3 + c := ⟨j - 3, by omega⟩
      rw [if_neg h1, if_pos h2, val_b _ _ (by omega)]
      obtain ⟨h3, h4⟩ := sg_bd xs (pD xs) (8 * c + w1 (pD xs))
      cases hd : pD xs
      · rw [hd] at h4
        simpa using h4 rfl
      · rw [hd] at h3
        simpa [show 3 ≤ 3 + c ∧ 3 + c < 6 from by omega] using h3 rfl
    · by_cases h3 : j < 8
      · obtain ⟨k, rfl⟩ : ∃ k, j = 6 + k := ⟨j - 6, by omega⟩
        rw [if_neg (by omega), if_neg h1, if_neg h2, if_pos h3, val_t _ _ (by omega)]
        have h := G_bd xs (24 + 3 * k) 3
        simpa using h
      · obtain ⟨i, rfl⟩ : ∃ i, j = 8 + i := ⟨j - 8, by omega⟩
        rw [if_neg (by omega), if_neg h1, if_neg h2, if_neg h3, val_w]
        have ha := G_bd xs (47 - pos i) 1
        have hb := G_bd xs (63 - pos i) 1
        have e : ((2 ^ 1 : Nat) : Int) = 2 := rfl
        rw [e] at ha hb
        omega
end Eo
end Go.Proofs.YtgcijioiicmjiaaDoor
