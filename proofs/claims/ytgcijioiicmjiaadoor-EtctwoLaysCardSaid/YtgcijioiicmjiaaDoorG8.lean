/- E2Plain, E2Lay, E2Run: merged. -/
import Derived.Test.YtgcijioiicmjiaaDoorG7
import Derived.Test.YtgcijioiicmjiaaDoorG4
import Derived.Test.YtgcijioiicmjiaaDoorE1Rpaint
set_option linter.all false
namespace Go.Proofs.YtgcijioiicmjiaaDoor
open Bi Lv
namespace Et
open Eo

/-- Bits at these places, as a number. -/
def bN (xs : List Nat) : List Nat → Nat → Nat
  | [], n => n
  | i :: l, n => bN xs l (2 * n + (bt xs true i).toNat)
def bits (xs : List Nat) (l : List Nat) : Int := ((bN xs l 0 : Nat) : Int)
theorem bN_append (xs : List Nat) : ∀ (l l' : List Nat) (n : Nat), bN xs (l ++ l') n = bN xs l' (bN xs l n)
  | [], _, _ => rfl
  | _ :: l, l', n => bN_append xs l l' _
theorem bN_lt (xs : List Nat) : ∀ (l : List Nat) (n : Nat), bN xs l n < (n + 1) * 2 ^ l.length
  | [], n => by simp [bN]
  | i :: l, n => by
    have h := bN_lt xs l (2 * n + (bt xs true i).toNat)
    have hb := b_lt (bt xs true i)
    have h2 : (2 * n + (bt xs true i).toNat + 1) * 2 ^ l.length ≤ (2 * n + 2) * 2 ^ l.length := Nat.mul_le_mul_right _ (by omega)
    have e : (n + 1) * 2 ^ (l.length + 1) = (2 * n + 2) * 2 ^ l.length := by rw [Nat.pow_succ, Nat.mul_comm (2 ^ l.length) 2, ← Nat.mul_assoc]; congr 1; omega
    rw [List.length_cons, e]
    show bN xs l _ < _
    omega
theorem bits_bd (xs : List Nat) (l : List Nat) : 0 ≤ bits xs l ∧ bits xs l < ((2 ^ l.length : Nat) : Int) := by
  have := bN_lt xs l 0
  unfold bits; omega
theorem getN_bN (xs : List Nat) (p : Nat) : ∀ m, getN xs true p m = bN xs ((List.range m).map (p + ·)) 0
  | 0 => rfl
  | m + 1 => by
    rw [← high_step, getN_bN xs p m, List.range_succ, List.map_append, bN_append]
    rfl
theorem G_bits (xs : List Nat) (p m : Nat) : G xs p m = bits xs ((List.range m).map (p + ·)) := by
  unfold G bits; rw [getN_bN]

/-- With punch-through alpha a block's bit 30 is taken as 1. -/
def pxs (p : Bool) (xs : List Nat) : List Nat := if p = true then st xs true 30 1 1 else xs
theorem pxs_length (p : Bool) (xs : List Nat) : (pxs p xs).length = xs.length := by
  unfold pxs; split
  · exact st_length _ _ _ _ _
  · rfl
theorem pxs_lt (p : Bool) (xs : List Nat) (h : ∀ x ∈ xs, x < 256) : ∀ x ∈ pxs p xs, x < 256 := by
  unfold pxs; split
  · exact st_lt _ _ _ _ _
  · exact h
theorem pxs_bit (p : Bool) (xs : List Nat) (hl : xs.length = 8) (i : Nat) (hi : i < 64) : bt (pxs p xs) true i = if p = true ∧ i = 30 then true else bt xs true i := by
  unfold pxs
  by_cases hp : p = true
  · rw [if_pos hp]
    unfold st
    rw [lay_bit _ _ _ _ _ _ (by omega)]
    by_cases h : i = 30
    · subst h
      simp [hp]
      try decide
    · rw [if_neg (by omega), if_neg (fun k => h k.2)]
  · rw [if_neg hp, if_neg (fun k => hp k.1)]
/-- The kind of a block: 0 to 3. -/
def kdN (p : Bool) (xs : List Nat) : Nat := if farP (pD (pxs p xs)) (pZ (pxs p xs)) 3 = 3 then 0 else farP (pD (pxs p xs)) (pZ (pxs p xs)) 3 + 1
def kdV (n : Nat) (p : Bool) (xs : List Nat) : Int := if n = 8 then ((kdN p xs : Nat) : Int) else 0
theorem kdN_le (p : Bool) (xs : List Nat) : kdN p xs ≤ 3 := by
  have := farP_le (pD (pxs p xs)) (pZ (pxs p xs)) 3 (by omega)
  unfold kdN; split <;> omega
def opq (p : Bool) (xs : List Nat) : Bool := !p || bt xs true 30

/-! Distances and colours. -/
def disL : List Int := [3, 6, 11, 16, 23, 32, 41, 64]
def disV (n : Int) : Int := disL.getD (n % 8).toNat 0
theorem disL_bd : ∀ k, k < 8 → 3 ≤ disL.getD k 0 ∧ disL.getD k 0 ≤ 64 := by decide
theorem disV_bd (n : Int) : 3 ≤ disV n ∧ disV n ≤ 64 := disL_bd _ (by omega)
/-- A colour of so many bits. -/
def col4 (r g b : Int) : List Int := [wideV r 4, wideV g 4, wideV b 4, 255]
def colP (r g b : Int) : List Int := [wideV r 6, wideV g 7, wideV b 6, 255]
/-- The colours of a block of T, and of H. -/
def tA (xs : List Nat) : List Int := col4 (bits xs [3, 4, 6, 7]) (bits xs [8, 9, 10, 11]) (bits xs [12, 13, 14, 15])
def tB (xs : List Nat) : List Int := col4 (bits xs [16, 17, 18, 19]) (bits xs [20, 21, 22, 23]) (bits xs [24, 25, 26, 27])
def tD (xs : List Nat) : Int := disV (bits xs [28, 29, 31])
def hA (xs : List Nat) (c : Nat) : Int := if c = 0 then bits xs [1, 2, 3, 4] else if c = 1 then bits xs [5, 6, 7, 11] else bits xs [12, 14, 15, 16]
def hB (xs : List Nat) (c : Nat) : Int := if c = 0 then bits xs [17, 18, 19, 20] else if c = 1 then bits xs [21, 22, 23, 24] else bits xs [25, 26, 27, 28]
def num3 (f : Nat → Int) : Int := 256 * f 0 + 16 * f 1 + f 2
def hN (xs : List Nat) : Int := 2 * bits xs [29, 31] + (if num3 (hB xs) ≤ num3 (hA xs) then 1 else 0)
def hD (xs : List Nat) : Int := disV (hN xs)
/-- The four colours, one behind another. -/
def frT (xs : List Nat) : List Int := tA xs ++ addV (tB xs) (tD xs) ++ tB xs ++ addV (tB xs) (-tD xs)
def frH (xs : List Nat) : List Int := addV (col4 (hA xs 0) (hA xs 1) (hA xs 2)) (hD xs) ++ addV (col4 (hA xs 0) (hA xs 1) (hA xs 2)) (-hD xs) ++ addV (col4 (hB xs 0) (hB xs 1) (hB xs 2)) (hD xs) ++ addV (col4 (hB xs 0) (hB xs 1) (hB xs 2)) (-hD xs)
def frV (k : Nat) (xs : List Nat) : List Int := if k = 1 then frT xs else frH xs
theorem frV_length (k : Nat) (xs : List Nat) : (frV k xs).length = 16 := by unfold frV; split <;> rfl
theorem col4_bd (r g b : Int) (j : Nat) : 0 ≤ (col4 r g b).getD j 0 ∧ (col4 r g b).getD j 0 ≤ 255 := by
  have h1 := wideV_bd r 4
  have h2 := wideV_bd g 4
  have h3 := wideV_bd b 4
  match j with
  | 0 => exact ⟨h1.1, by have := h1.2; show wideV r 4 ≤ 255; omega⟩
  | 1 => exact ⟨h2.1, by have := h2.2; show wideV g 4 ≤ 255; omega⟩
  | 2 => exact ⟨h3.1, by have := h3.2; show wideV b 4 ≤ 255; omega⟩
  | 3 => exact ⟨show (0 : Int) ≤ 255 by decide, show (255 : Int) ≤ 255 by decide⟩
  | j + 4 => exact ⟨by simp [col4], by simp [col4]⟩

/-! Planes. -/
def plE (o h v : List Int) (i c : Nat) : Int := clampV ((((i % 4 : Nat) : Int) * (h.getD c 0 - o.getD c 0) + ((i / 4 : Nat) : Int) * (v.getD c 0 - o.getD c 0) + 4 * o.getD c 0 + 2) / 4) 255
def plR (o h v : List Int) (i : Nat) : List Int := [plE o h v i 0, plE o h v i 1, plE o h v i 2, 255]
def plV (o h v : List Int) : List Int := fl z64 (plR o h v) 16
theorem plV_length (o h v : List Int) : (plV o h v).length = 64 := by rw [plV, fl_length]; exact z64_length
theorem plV_row (o h v : List Int) (i : Nat) (hi : i < 16) : ((plV o h v).drop (i * 4)).take 4 = plR o h v i :=
  fl_row _ _ (fun _ => rfl) 16 (by rw [z64_length]; omega) i hi
def oV (xs : List Nat) : List Int := colP (bits xs [1, 2, 3, 4, 5, 6]) (bits xs [7, 9, 10, 11, 12, 13, 14]) (bits xs [15, 19, 20, 22, 23, 24])
def hV (xs : List Nat) : List Int := colP (bits xs [25, 26, 27, 28, 29, 31]) (bits xs [32, 33, 34, 35, 36, 37, 38]) (bits xs [39, 40, 41, 42, 43, 44])
def vV (xs : List Nat) : List Int := colP (bits xs [45, 46, 47, 48, 49, 50]) (bits xs [51, 52, 53, 54, 55, 56, 57]) (bits xs [58, 59, 60, 61, 62, 63])

/-! Texels. -/
def dtV (p : Bool) (xs : List Nat) (i : Nat) : List Int :=
  if opq p xs = false ∧ (pZ (pxs p xs)).getD (8 + i) 0 = 2 then [0, 0, 0, 0]
  else if kdN p xs = 1 ∨ kdN p xs = 2 then ((frV (kdN p xs) xs).drop (((pZ (pxs p xs)).getD (8 + i) 0).toNat * 4)).take 4
  else if opq p xs = false ∧ (pZ (pxs p xs)).getD (8 + i) 0 = 0 then bRow (pD (pxs p xs)) (pZ (pxs p xs)) (halfN (pF (pxs p xs)) i)
  else txV (pD (pxs p xs)) (pF (pxs p xs)) (pZ (pxs p xs)) i
def d2V (n : Nat) (p : Bool) (xs : List Nat) : List Int := if n = 8 then (if kdN p xs = 3 then plV (oV xs) (hV xs) (vV xs) else fl z64 (dtV p xs) 16) else z64
/-! What layer 10 says of a block. -/
theorem pxs_no (xs : List Nat) : pxs false xs = xs := rfl
theorem pxs_same (xs : List Nat) (hl : xs.length = 8) (hx : ∀ x ∈ xs, x < 256) (h : bt xs true 30 = true) (p : Bool) : pxs p xs = xs := by
  refine ext_bits true (pxs_length p xs) (pxs_lt p xs hx) hx fun i hi => ?_
  rw [pxs_length, hl] at hi
  rw [pxs_bit p xs hl i (by omega)]
  by_cases hc : p = true ∧ i = 30
  · rw [if_pos hc, hc.2, h]
  · rw [if_neg hc]
end Et
end Go.Proofs.YtgcijioiicmjiaaDoor
set_option linter.all false
namespace Go.Proofs.YtgcijioiicmjiaaDoor
open Bi Lv
namespace Et
open Eo
open Bc (z8 z8_lt)

theorem bN_eq (xs : List Nat) (N : Nat) : ∀ (l : List Nat) (n : Nat), (∀ j (h : j < l.length), bt xs true l[j] = N.testBit (l.length - 1 - j)) → bN xs l n = n * 2 ^ l.length + N % 2 ^ l.length
  | [], n, _ => by simp [bN, Nat.mod_one]
  | i :: l, n, h => by
    have h0 := h 0 (by simp)
    have ht := bN_eq xs N l (2 * n + (bt xs true i).toNat) fun j hj => by
      have := h (j + 1) (by simpa using hj)
      simpa [show l.length - (j + 1) = l.length - 1 - j from by omega] using this
    show bN xs l _ = _
    rw [ht, List.length_cons, Nat.mod_pow_succ, bit_div, Nat.pow_succ]
    have e : bt xs true i = N.testBit l.length := by simpa using h0
    rw [e, Nat.add_mul, Nat.mul_comm 2 n, Nat.mul_assoc, Nat.mul_comm 2 (2 ^ l.length), Nat.mul_comm (2 ^ l.length) (N.testBit l.length).toNat]
    omega
/-- The places of the nine numbers' bits. -/
def fd (k : Nat) : List Nat := ([[1, 2, 3, 4, 5, 6], [7, 9, 10, 11, 12, 13, 14], [15, 19, 20, 22, 23, 24], [25, 26, 27, 28, 29, 31], [32, 33, 34, 35, 36, 37, 38], [39, 40, 41, 42, 43, 44], [45, 46, 47, 48, 49, 50], [51, 52, 53, 54, 55, 56, 57], [58, 59, 60, 61, 62, 63]] : List (List Nat)).getD k []
/-- Which number's which bit stands at a place; 9: none. -/
def tb (i : Nat) : Nat × Nat := ([(9, 0), (0, 5), (0, 4), (0, 3), (0, 2), (0, 1), (0, 0), (1, 6), (9, 0), (1, 5), (1, 4), (1, 3), (1, 2), (1, 1), (1, 0), (2, 5), (9, 0), (9, 0), (9, 0), (2, 4), (2, 3), (9, 0), (2, 2), (2, 1), (2, 0), (3, 5), (3, 4), (3, 3), (3, 2), (3, 1), (9, 0), (3, 0), (4, 6), (4, 5), (4, 4), (4, 3), (4, 2), (4, 1), (4, 0), (5, 5), (5, 4), (5, 3), (5, 2), (5, 1), (5, 0), (6, 5), (6, 4), (6, 3), (6, 2), (6, 1), (6, 0), (7, 6), (7, 5), (7, 4), (7, 3), (7, 2), (7, 1), (7, 0), (8, 5), (8, 4), (8, 3), (8, 2), (8, 1), (8, 0)] : List (Nat × Nat)).getD i (9, 0)
theorem tb_fd : ∀ k, k < 9 → ∀ j, j < (fd k).length → tb ((fd k).getD j 0) = (k, (fd k).length - 1 - j) ∧ (fd k).getD j 0 < 64 := by decide +kernel
theorem fd_no : ∀ k, k < 9 → ∀ j, j < (fd k).length → (fd k).getD j 0 ≠ 0 ∧ (fd k).getD j 0 ≠ 8 ∧ (fd k).getD j 0 ≠ 16 ∧ (fd k).getD j 0 ≠ 17 ∧ (fd k).getD j 0 ≠ 18 ∧ (fd k).getD j 0 ≠ 21 ∧ (fd k).getD j 0 ≠ 30 := by decide +kernel
/-- The bits of the nine numbers, and bit 30; those that are left. -/
def lb (L : Nat → Int) (i : Nat) : Bool := if (tb i).1 = 9 then decide (i = 30) else ((L (tb i).1).toNat).testBit (tb i).2
def n4 (a b c d : Bool) : Int := 8 * ((a.toNat : Nat) : Int) + 4 * ((b.toNat : Nat) : Int) + 2 * ((c.toNat : Nat) : Int) + ((d.toNat : Nat) : Int)
def n3 (a b c : Bool) : Int := 4 * ((a.toNat : Nat) : Int) + 2 * ((b.toNat : Nat) : Int) + ((c.toNat : Nat) : Int)
def n2 (a b : Bool) : Int := 2 * ((a.toNat : Nat) : Int) + ((b.toNat : Nat) : Int)
/-- Would a channel go too far? Is the sum of blue's numbers great? -/
def low (L : Nat → Int) (p : Nat) : Bool := decide (n4 (lb L (p + 1)) (lb L (p + 2)) (lb L (p + 3)) (lb L (p + 4)) + sg true (n3 (lb L (p + 5)) (lb L (p + 6)) (lb L (p + 7))) < 0)
def big (L : Nat → Int) : Bool := decide (4 ≤ n2 (lb L 19) (lb L 20) + n2 (lb L 22) (lb L 23))
def lG (L : Nat → Int) (i : Nat) : Bool := if i = 0 then low L 0 else if i = 8 then low L 8 else if i = 16 ∨ i = 17 ∨ i = 18 then big L else if i = 21 then !big L else lb L i
def lB (L : Nat → Int) : List Nat := lay z8 true 0 64 (lG L)
theorem lB_length (L : Nat → Int) : (lB L).length = 8 := by unfold lB; rw [lay_length]; rfl
theorem lB_lt (L : Nat → Int) : ∀ x ∈ lB L, x < 256 := lay_lt _ _ _ _ _
theorem lB_bit (L : Nat → Int) (i : Nat) (h : i < 64) : bt (lB L) true i = lG L i := by
  unfold lB
  rw [lay_bit _ _ _ _ _ _ (by show i < 8 * 8; omega), if_pos (by omega), Nat.sub_zero]
/-- What a colour may be. -/
def okL (L : Nat → Int) : Prop := ∀ k, k < 9 → 0 ≤ L k ∧ L k < ((2 ^ (fd k).length : Nat) : Int)
/-- The numbers of the block are those of the colours. -/
theorem lB_bits (L : Nat → Int) (h : okL L) (k : Nat) (hk : k < 9) : bits (lB L) (fd k) = L k := by
  have hL := h k hk
  unfold bits
  rw [bN_eq (lB L) (L k).toNat (fd k) 0 fun j hj => ?_, Nat.zero_mul, Nat.zero_add, Nat.mod_eq_of_lt (by omega)]
  · omega
  · have e : (fd k)[j] = (fd k).getD j 0 := by rw [List.getD_eq_getElem?_getD, List.getElem?_eq_getElem hj]; rfl
    obtain ⟨h1, h2⟩ := tb_fd k hk j hj
    obtain ⟨c0, c8, c16, c17, c18, c21, c30⟩ := fd_no k hk j hj
    rw [e, lB_bit _ _ h2]
    unfold lG
    rw [if_neg c0, if_neg c8, if_neg (by omega), if_neg c21]
    unfold lb
    rw [h1, if_neg (by show ¬ k = 9; omega)]
theorem G5 (xs : List Nat) (p : Nat) : G xs p 5 = 16 * (((bt xs true p).toNat : Nat) : Int) + n4 (bt xs true (p + 1)) (bt xs true (p + 2)) (bt xs true (p + 3)) (bt xs true (p + 4)) := by
  rw [G_bits]
  show ((bN xs [p + 0, p + 1, p + 2, p + 3, p + 4] 0 : Nat) : Int) = _
  simp only [bN, Nat.add_zero, n4]
  omega
theorem G3 (xs : List Nat) (p : Nat) : G xs p 3 = n3 (bt xs true p) (bt xs true (p + 1)) (bt xs true (p + 2)) := by
  rw [G_bits]
  show ((bN xs [p + 0, p + 1, p + 2] 0 : Nat) : Int) = _
  simp only [bN, Nat.add_zero, n3]
  omega
theorem key_in : ∀ b1 b2 b3 b4 b5 b6 b7 : Bool, 0 ≤ sg true (n3 b5 b6 b7) + (16 * (((decide (n4 b1 b2 b3 b4 + sg true (n3 b5 b6 b7) < 0)).toNat : Nat) : Int) + n4 b1 b2 b3 b4) ∧ sg true (n3 b5 b6 b7) + (16 * (((decide (n4 b1 b2 b3 b4 + sg true (n3 b5 b6 b7) < 0)).toNat : Nat) : Int) + n4 b1 b2 b3 b4) < 32 := by decide +kernel
theorem key_out : ∀ b3 b4 b6 b7 : Bool, ¬ (0 ≤ sg true (n3 (!decide (4 ≤ n2 b3 b4 + n2 b6 b7)) b6 b7) + (16 * (((decide (4 ≤ n2 b3 b4 + n2 b6 b7)).toNat : Nat) : Int) + n4 (decide (4 ≤ n2 b3 b4 + n2 b6 b7)) (decide (4 ≤ n2 b3 b4 + n2 b6 b7)) b3 b4) ∧ sg true (n3 (!decide (4 ≤ n2 b3 b4 + n2 b6 b7)) b6 b7) + (16 * (((decide (4 ≤ n2 b3 b4 + n2 b6 b7)).toNat : Nat) : Int) + n4 (decide (4 ≤ n2 b3 b4 + n2 b6 b7)) (decide (4 ≤ n2 b3 b4 + n2 b6 b7)) b3 b4) < 32) := by decide +kernel
theorem lB_D (L : Nat → Int) : pD (lB L) = true := by unfold pD; rw [lB_bit _ _ (by omega)]; rfl
theorem se_bits (xs : List Nat) (hD : pD xs = true) (c : Nat) (hc : c < 3) : seV true (pZ xs) c = sg true (G xs (8 * c + 5) 3) + G xs (8 * c) 5 := by
  unfold seV
  rw [if_pos rfl, pZ_getD _ _ (by omega), pZ_getD _ _ (by omega), val_b _ _ hc, val_a _ _ hc, hD]
  rfl
/-- The block is planar. -/
theorem lB_far (L : Nat → Int) : farP true (pZ (lB L)) 3 = 2 := by
  have hD := lB_D L
  have o0 : oob true (pZ (lB L)) 0 = false := by
    have k := key_in (lb L 1) (lb L 2) (lb L 3) (lb L 4) (lb L 5) (lb L 6) (lb L 7)
    unfold oob
    rw [se_bits _ hD 0 (by omega), G5, G3, lB_bit _ _ (by omega), lB_bit _ _ (by omega), lB_bit _ _ (by omega), lB_bit _ _ (by omega), lB_bit _ _ (by omega), lB_bit _ _ (by omega), lB_bit _ _ (by omega), lB_bit _ _ (by omega)]
    simp only [Bool.true_and, Bool.not_eq_false', decide_eq_true_eq]
    exact k
  have o1 : oob true (pZ (lB L)) 1 = false := by
    have k := key_in (lb L 9) (lb L 10) (lb L 11) (lb L 12) (lb L 13) (lb L 14) (lb L 15)
    unfold oob
    rw [se_bits _ hD 1 (by omega), G5, G3, lB_bit _ _ (by omega), lB_bit _ _ (by omega), lB_bit _ _ (by omega), lB_bit _ _ (by omega), lB_bit _ _ (by omega), lB_bit _ _ (by omega), lB_bit _ _ (by omega), lB_bit _ _ (by omega)]
    simp only [Bool.true_and, Bool.not_eq_false', decide_eq_true_eq]
    exact k
  have o2 : oob true (pZ (lB L)) 2 = true := by
    have k := key_out (lb L 19) (lb L 20) (lb L 22) (lb L 23)
    unfold oob
    rw [se_bits _ hD 2 (by omega), G5, G3, lB_bit _ _ (by omega), lB_bit _ _ (by omega), lB_bit _ _ (by omega), lB_bit _ _ (by omega), lB_bit _ _ (by omega), lB_bit _ _ (by omega), lB_bit _ _ (by omega), lB_bit _ _ (by omega)]
    simp only [Bool.true_and, Bool.not_eq_true', decide_eq_false_iff_not]
    exact k
  unfold farP farP farP farP
  simp [o0, o1, o2]
theorem lB_kind (L : Nat → Int) (p : Bool) : kdN p (lB L) = 3 := by
  unfold kdN
  rw [pxs_same (lB L) (lB_length L) (lB_lt L) (lB_D L) p, lB_D, lB_far]
  rfl
/-- And its texels are those of its plane. -/
theorem lB_texels (L : Nat → Int) (h : okL L) (p : Bool) : d2V 8 p (lB L) = plV (colP (L 0) (L 1) (L 2)) (colP (L 3) (L 4) (L 5)) (colP (L 6) (L 7) (L 8)) := by
  unfold d2V
  rw [if_pos rfl, lB_kind, if_pos rfl]
  unfold oV hV vV
  rw [← lB_bits L h 0 (by omega), ← lB_bits L h 1 (by omega), ← lB_bits L h 2 (by omega), ← lB_bits L h 3 (by omega), ← lB_bits L h 4 (by omega), ← lB_bits L h 5 (by omega), ← lB_bits L h 6 (by omega), ← lB_bits L h 7 (by omega), ← lB_bits L h 8 (by omega)]
  rfl
end Et
end Go.Proofs.YtgcijioiicmjiaaDoor
set_option linter.all false
namespace Go.Proofs.YtgcijioiicmjiaaDoor
open Go.RowKit
open Bi Lv Eo Et

instance : Aggr 75 2 := ⟨⟨_, Tryd.underlying75, rfl⟩, by kernel_rfl⟩
instance : Aggr 80 6 := ⟨⟨_, Tryd.underlying80, rfl⟩, by kernel_rfl⟩
instance : Aggr 81 18 := ⟨⟨_, Tryd.underlying81, rfl⟩, by kernel_rfl⟩
instance : ZeroV 75 (i64s [0, 0]) := .of (by kernel_rfl)
instance : ZeroV 80 (i64s [0, 0, 0, 0, 0, 0]) := .of (by kernel_rfl)
/-- An element of an array whose elements take more cells than one. -/
theorem run_index_agg {P : Program} (t e : TypeId) (n m : Nat) {d : TypeDesc} (hu : P.underlying t = some (.array n e)) (he : P.underlying e = some d) (hd : d.isRow = true) (hs : (P.info? e).map (·.size) = some m) (zs : List Int) (i : Nat) (hi : i < n) (hn : zs.length = n * m) (w : World) :
    (Instr.index t (arr zs) (.int .i64 (i : Int))).run P w = .ok (arr ((zs.drop (i * m)).take m)) w := by
  cases hq : P.info? e with
  | none => simp [hq] at hs
  | some inf =>
    have hz : inf.size = m := by simpa [hq] using hs
    have hc : (0 : Int) ≤ (i : Int) ∧ (i : Int) < (n : Int) := by omega
    cases d <;> simp [TypeDesc.isRow] at hd
    all_goals
      simp [Instr.index, run_underlying hu, run_underlying he, asIntOf, hc, go_sem, sizeOf, typeInfo, hq, hz, part, isAgg, arr]
      rw [if_pos hi, i64s_take, i64s_drop]
namespace Et
/-- Three runs: where each begins, and its bits. -/
def rV (a m : Nat → Nat) : List Int := [(a 0 : Int), (m 0 : Int), (a 1 : Int), (m 1 : Int), (a 2 : Int), (m 2 : Int)]
theorem rV_part (a m : Nat → Nat) (k : Nat) (hk : k < 3) : ((rV a m).drop (k * 2)).take 2 = [(a k : Int), (m k : Int)] := by
  obtain rfl | rfl | rfl : k = 0 ∨ k = 1 ∨ k = 2 := by omega
  all_goals rfl
/-- The number of their bits. -/
def tkN (xs : List Nat) (a m : Nat → Nat) : Nat → Nat
  | 0 => 0
  | k + 1 => tkN xs a m k * 2 ^ m k + getN xs true (a k) (m k)
def okR (a m : Nat → Nat) : Prop := ∀ k, k < 3 → m k ≤ 7 ∧ a k + m k ≤ 64
theorem tkN_lt (xs : List Nat) (a m : Nat → Nat) (h : okR a m) : ∀ k, k ≤ 3 → tkN xs a m k < 2 ^ (7 * k)
  | 0, _ => by show 0 < 1; omega
  | k + 1, hk => by
    have h1 := tkN_lt xs a m h k (by omega)
    have h2 := getN_lt' xs (a k) (m k)
    have h3 : 2 ^ m k ≤ 2 ^ 7 := Nat.pow_le_pow_right (by omega) (h k (by omega)).1
    have h4 : tkN xs a m k * 2 ^ m k + getN xs true (a k) (m k) < (tkN xs a m k + 1) * 2 ^ m k := by rw [Nat.succ_mul]; omega
    have h5 : (tkN xs a m k + 1) * 2 ^ m k ≤ 2 ^ (7 * k) * 2 ^ 7 := Nat.mul_le_mul h1 h3
    rw [tkN, show 7 * (k + 1) = 7 * k + 7 by omega, Nat.pow_add]
    omega
/-- How many bits. -/
def wdN (m : Nat → Nat) : Nat → Nat
  | 0 => 0
  | k + 1 => wdN m k + m k
end Et
theorem or_val (N h m : Nat) (hN : N < 2097152) (hm : m ≤ 7) (hh : h < 2 ^ m) : bits .or .i64 (wrap64 ((N : Int) * 2 ^ m)) (h : Int) = ((N * 2 ^ m + h : Nat) : Int) := by
  have h1 : 2 ^ m ≤ 2 ^ 7 := Nat.pow_le_pow_right (by omega) hm
  have h2 : N * 2 ^ m ≤ 2097152 * 2 ^ 7 := Nat.mul_le_mul (by omega) h1
  have e : ((N : Int) * 2 ^ m) = ((N * 2 ^ m : Nat) : Int) := by simp
  rw [e, wrap64_small _ (by omega) (by omega), i64_or_nat _ _ (by omega) (by omega), Nat.mul_comm N, ← Nat.two_pow_add_eq_or_of_lt hh]

set_option maxHeartbeats 2000000 in
/-- The closure that takes the number of some runs. -/
theorem take3 {w u : World} {R : List Res} {F : List (World → Prop)} (E0 : Kn w R F u) (gb : Nat) (A : Option Addr) (c : Nat) (xs : List Nat) (a m : Nat → Nat) (hg : cellsF gb [.slice A 8 c] ∈ F) (hx : bsF A 8 xs ∈ F) (hb : okR a m) :
    Calls Tryd.prog 71 #[arr (rV a m), .pointer (some ⟨gb, 0, none⟩)] u fun e u1 => e = .returned (.int .i64 ((tkN xs a m 3 : Nat) : Int)) ∧ Kn w R F u1 := by
  have E := Lib.hid E0
  have HI := Lib.hid (fun k (hk : k < 3) u => run_index_agg (P := Tryd.prog) 80 75 3 2 Tryd.underlying80 Tryd.underlying75 rfl (by kernel_rfl) (rV a m) k hk rfl u)
  have HP := Lib.hid (fun k (hk : k < 3) => rV_part a m k hk)
  have HN := Lib.hid (fun k (hk : k ≤ 3) => show tkN xs a m k < 2097152 + 1 - 1 from by
    have h := tkN_lt xs a m hb k hk
    have h2 : 2 ^ (7 * k) ≤ 2 ^ 21 := Nat.pow_le_pow_right (by omega) (by omega)
    omega)
  have H0 := Lib.hid (show tkN xs a m 0 = 0 from rfl)
  have HS := Lib.hid (fun k => show tkN xs a m (k + 1) = tkN xs a m k * 2 ^ m k + getN xs true (a k) (m k) from rfl)
  have HL := Lib.hid (fun k (hk : k < 3) (u : World) (hu : Bs u u.heap.size A 8 xs) => high_ok A 8 c (a k) (m k) xs u hu (by omega) (by have := hb k hk; omega) (by have := hb k hk; omega))
  have HG := Lib.hid (fun k => getN_lt' xs (a k) (m k))
  have HB := Lib.hid hb
  have hrl : Hid ((i64s (rV a m)).length = 6) := rfl
  clear E0 hb
  generalize rV a m = RV at *
  generalize tkN xs a m = TK at *
  go_enter Tryd.func71, Tryd.ntmps71
  go_wp2_with (first | ((with_reducible refine kn_loads (g := g2) E.out rfl rfl rfl ?hl ?_); (case hl => exact hrl.out)) | ((with_reducible refine kn_load E.out rfl rfl rfl rfl ?_)) | ((with_reducible refine kn_load_if E.out rfl rfl rfl rfl ?_)) | ((with_reducible refine kn_loads E.out rfl rfl rfl ?_ ?_); (focus (first | rfl | (simp only [i64s_length, u8s_length]; first | rfl | assumption | omega)))) | ((with_reducible refine kn_loads_if E.out rfl rfl rfl ?_ ?_); (focus (first | rfl | (simp only [i64s_length, u8s_length]; first | rfl | assumption | omega)))) | ((with_reducible refine kn_stores E.out rfl rfl rfl rfl rfl ?_ ?_ ?_); (focus (first | exact ⟨rfl, rfl⟩ | (simp only [i64s_length, u8s_length]; refine ⟨?_, ?_⟩ <;> first | rfl | assumption | omega))); (focus (first | exact i64s_one _ | exact u8s_one _ | simp [Value.oneCell'])); clear E; intro u E0; have E := Lib.hid E0; clear E0) | ((with_reducible refine kn_alloc (o := ⟨some 2, _, _, _, _, _⟩) E.out rfl rfl ?_); clear E; intro g2 u E0 hb0; have E := Lib.hid E0; clear E0 hb0) | ((with_reducible refine kn_box (o := ⟨some 2, _, _, _, _, _⟩) E.out rfl rfl rfl ?_); clear E; intro g2 u E0 hb0; have E := Lib.hid E0; clear E0 hb0) | ((with_reducible refine kn_box_int (o := ⟨some 2, _, _, _, _, _⟩) E.out rfl rfl rfl ?_); clear E; intro g2 u E0 hb0; have E := Lib.hid E0; clear E0 hb0) | ((with_reducible refine kn_box_slice (o := ⟨some 2, _, _, _, _, _⟩) E.out rfl rfl rfl ?_); clear E; intro g2 u E0 hb0; have E := Lib.hid E0; clear E0 hb0) | ((with_reducible refine kn_box_bool (o := ⟨some 2, _, _, _, _, _⟩) E.out rfl rfl rfl ?_); clear E; intro g2 u E0 hb0; have E := Lib.hid E0; clear E0 hb0) | ((with_reducible refine kn_box_func (o := ⟨some 2, _, _, _, _, _⟩) E.out rfl rfl rfl ?_); clear E; intro g2 u E0 hb0; have E := Lib.hid E0; clear E0 hb0))
  go_loopw [4, 10] (fun cn ck wr => ∃ k : Nat, k ≤ 3 ∧ cn = .int .i64 ((TK k : Nat) : Int) ∧ ck = .int .i64 (k : Int) ∧ Hid (Kn w (.row g2 80 (i64s RV) :: R) F wr)) (fun _ ck _ => 3 - (intOf ck).toNat)
  case atStart => exact ⟨0, by omega, by rw [H0.out]; rfl, rfl, E⟩
  case round =>
    clear E
    obtain ⟨k, hk, rfl, rfl, E⟩ := hrel
    by_cases hlt : k < 3
    · have hk3 : (k : Int) < 3 := by omega
      have hix := fun u => HI.out k hlt u
      rw [HP.out k hlt] at hix
      have hN := HN.out k hk
      have hL := Lib.hid (fun u hu => HL.out k hlt u hu)
      have hbd := HB.out k hlt
      have hor := or_val (TK k) (getN xs true (a k) (m k)) (m k) (by omega) hbd.1 (HG.out k)
      rw [← HS.out k] at hor
      have hlo : getN xs true (a k) (m k) < 128 := Nat.lt_of_lt_of_le (HG.out k) (show 2 ^ m k ≤ 2 ^ 7 from Nat.pow_le_pow_right (by omega) hbd.1)
      clear HI HP HN HS HL HG HB H0
      generalize getN xs true (a k) (m k) = h at *
      obtain ⟨t1, ht1⟩ : ∃ z, TK (k + 1) = z := ⟨_, rfl⟩
      rw [ht1] at hor
      replace ht1 := Lib.hid ht1
      generalize TK k = t0 at *
      generalize a k = ak at *
      generalize m k = mk at *
      have hor2 := Lib.hid hor
      go_wp2_with (first
        | ((with_reducible refine kn_stores (g := g6) (vs := i64s [(ak : Int), (mk : Int)]) E.out rfl rfl rfl rfl rfl ?hl ?h1 ?_); (case hl => exact ⟨rfl, rfl⟩); (case h1 => exact i64s_one _); clear E; intro u E0; have E := Lib.hid E0; clear E0)
        | ((with_reducible refine kn_gload (g := gb) (i := 0) E.out rfl rfl rfl hg rfl ?_))
        | (go_at_call 48; (with_reducible refine (hL.out _ ?hB).mono ?_); (case hB => exact E.out.bs hx); clear hL; rintro e w1 ⟨rfl, hb⟩; have E1 := Lib.hid (E.out.later hb); clear hb E; have E := E1; clear E1)
        | ((with_reducible refine kn_load E.out rfl rfl rfl rfl ?_)) | ((with_reducible refine kn_load_if E.out rfl rfl rfl rfl ?_)) | ((with_reducible refine kn_loads E.out rfl rfl rfl ?_ ?_); (focus (first | rfl | (simp only [i64s_length, u8s_length]; first | rfl | assumption | omega)))) | ((with_reducible refine kn_loads_if E.out rfl rfl rfl ?_ ?_); (focus (first | rfl | (simp only [i64s_length, u8s_length]; first | rfl | assumption | omega)))) | ((with_reducible refine kn_stores E.out rfl rfl rfl rfl rfl ?_ ?_ ?_); (focus (first | exact ⟨rfl, rfl⟩ | (simp only [i64s_length, u8s_length]; refine ⟨?_, ?_⟩ <;> first | rfl | assumption | omega))); (focus (first | exact i64s_one _ | exact u8s_one _ | simp [Value.oneCell'])); clear E; intro u E0; have E := Lib.hid E0; clear E0) | ((with_reducible refine kn_alloc (o := ⟨some 6, _, _, _, _, _⟩) E.out rfl rfl ?_); clear E; intro g6 u E0 hb0; have E := Lib.hid E0; clear E0 hb0) | ((with_reducible refine kn_box (o := ⟨some 6, _, _, _, _, _⟩) E.out rfl rfl rfl ?_); clear E; intro g6 u E0 hb0; have E := Lib.hid E0; clear E0 hb0) | ((with_reducible refine kn_box_int (o := ⟨some 6, _, _, _, _, _⟩) E.out rfl rfl rfl ?_); clear E; intro g6 u E0 hb0; have E := Lib.hid E0; clear E0 hb0) | ((with_reducible refine kn_box_slice (o := ⟨some 6, _, _, _, _, _⟩) E.out rfl rfl rfl ?_); clear E; intro g6 u E0 hb0; have E := Lib.hid E0; clear E0 hb0) | ((with_reducible refine kn_box_bool (o := ⟨some 6, _, _, _, _, _⟩) E.out rfl rfl rfl ?_); clear E; intro g6 u E0 hb0; have E := Lib.hid E0; clear E0 hb0) | ((with_reducible refine kn_box_func (o := ⟨some 6, _, _, _, _, _⟩) E.out rfl rfl rfl ?_); clear E; intro g6 u E0 hb0; have E := Lib.hid E0; clear E0 hb0))
      go_roundw
      case rel => exact ⟨k + 1, by omega, by rw [ht1.out, ← hor2.out], by go_num, E.out.part _ _ (by repeat (first | exact List.Sublist.refl _ | apply List.Sublist.cons_cons | apply List.Sublist.cons)) (by simp)⟩
      case measure => simp [intOf]; try omega
    · have hk3 : ¬ ((k : Int) < 3) := by omega
      have ek : k = 3 := by omega
      subst ek
      clear HI HP HN HS HL HG HB hlt
      go_wp2_with (first | ((with_reducible refine kn_load E.out rfl rfl rfl rfl ?_)) | ((with_reducible refine kn_load_if E.out rfl rfl rfl rfl ?_)) | ((with_reducible refine kn_loads E.out rfl rfl rfl ?_ ?_); (focus (first | rfl | (simp only [i64s_length, u8s_length]; first | rfl | assumption | omega)))) | ((with_reducible refine kn_loads_if E.out rfl rfl rfl ?_ ?_); (focus (first | rfl | (simp only [i64s_length, u8s_length]; first | rfl | assumption | omega)))) | ((with_reducible refine kn_stores E.out rfl rfl rfl rfl rfl ?_ ?_ ?_); (focus (first | exact ⟨rfl, rfl⟩ | (simp only [i64s_length, u8s_length]; refine ⟨?_, ?_⟩ <;> first | rfl | assumption | omega))); (focus (first | exact i64s_one _ | exact u8s_one _ | simp [Value.oneCell'])); clear E; intro u E0; have E := Lib.hid E0; clear E0))
      go_ret
      exact ⟨rfl, E.out.part _ _ (by repeat (first | exact List.Sublist.refl _ | apply List.Sublist.cons_cons | apply List.Sublist.cons)) (fun _ h => h)⟩
set_option maxHeartbeats 2000000 in
theorem width3 (a m : Nat → Nat) (w : World) (hb : okR a m) : Calls Tryd.prog 67 #[arr (rV a m)] w fun e w' => e = .returned (.int .i64 ((wdN m 3 : Nat) : Int)) ∧ Below w.heap.size w w' := by
  have E := Lib.hid (Kn.start w)
  have HI := Lib.hid (fun k (hk : k < 3) u => run_index_agg (P := Tryd.prog) 80 75 3 2 Tryd.underlying80 Tryd.underlying75 rfl (by kernel_rfl) (rV a m) k hk rfl u)
  have HP := Lib.hid (fun k (hk : k < 3) => rV_part a m k hk)
  have HS := Lib.hid (fun k => show wdN m (k + 1) = wdN m k + m k from rfl)
  have H0 := Lib.hid (show wdN m 0 = 0 from rfl)
  have HN := Lib.hid (fun k (hk : k ≤ 3) => show wdN m k ≤ 21 from by
    have h0 := (hb 0 (by omega)).1
    have h1 := (hb 1 (by omega)).1
    have h2 := (hb 2 (by omega)).1
    obtain rfl | rfl | rfl | rfl : k = 0 ∨ k = 1 ∨ k = 2 ∨ k = 3 := by omega
    all_goals simp only [wdN]; omega)
  have HB := Lib.hid hb
  have hrl : Hid ((i64s (rV a m)).length = 6) := rfl
  clear hb
  generalize rV a m = RV at *
  generalize wdN m = WD at *
  go_enter Tryd.func67, Tryd.ntmps67
  go_wp2_with (first | ((with_reducible refine kn_loads (g := g1) E.out rfl rfl rfl ?hl ?_); (case hl => exact hrl.out)) | ((with_reducible refine kn_load E.out rfl rfl rfl rfl ?_)) | ((with_reducible refine kn_load_if E.out rfl rfl rfl rfl ?_)) | ((with_reducible refine kn_loads E.out rfl rfl rfl ?_ ?_); (focus (first | rfl | (simp only [i64s_length, u8s_length]; first | rfl | assumption | omega)))) | ((with_reducible refine kn_loads_if E.out rfl rfl rfl ?_ ?_); (focus (first | rfl | (simp only [i64s_length, u8s_length]; first | rfl | assumption | omega)))) | ((with_reducible refine kn_stores E.out rfl rfl rfl rfl rfl ?_ ?_ ?_); (focus (first | exact ⟨rfl, rfl⟩ | (simp only [i64s_length, u8s_length]; refine ⟨?_, ?_⟩ <;> first | rfl | assumption | omega))); (focus (first | exact i64s_one _ | exact u8s_one _ | simp [Value.oneCell'])); clear E; intro u E0; have E := Lib.hid E0; clear E0) | ((with_reducible refine kn_alloc (o := ⟨some 1, _, _, _, _, _⟩) E.out rfl rfl ?_); clear E; intro g1 u E0 hb0; have E := Lib.hid E0; clear E0 hb0) | ((with_reducible refine kn_box (o := ⟨some 1, _, _, _, _, _⟩) E.out rfl rfl rfl ?_); clear E; intro g1 u E0 hb0; have E := Lib.hid E0; clear E0 hb0) | ((with_reducible refine kn_box_int (o := ⟨some 1, _, _, _, _, _⟩) E.out rfl rfl rfl ?_); clear E; intro g1 u E0 hb0; have E := Lib.hid E0; clear E0 hb0) | ((with_reducible refine kn_box_slice (o := ⟨some 1, _, _, _, _, _⟩) E.out rfl rfl rfl ?_); clear E; intro g1 u E0 hb0; have E := Lib.hid E0; clear E0 hb0) | ((with_reducible refine kn_box_bool (o := ⟨some 1, _, _, _, _, _⟩) E.out rfl rfl rfl ?_); clear E; intro g1 u E0 hb0; have E := Lib.hid E0; clear E0 hb0) | ((with_reducible refine kn_box_func (o := ⟨some 1, _, _, _, _, _⟩) E.out rfl rfl rfl ?_); clear E; intro g1 u E0 hb0; have E := Lib.hid E0; clear E0 hb0))
  go_loopw [3, 7] (fun cn ck wr => ∃ k : Nat, k ≤ 3 ∧ cn = .int .i64 ((WD k : Nat) : Int) ∧ ck = .int .i64 (k : Int) ∧ Hid (Kn w [.row g1 80 (i64s RV)] [] wr)) (fun _ ck _ => 3 - (intOf ck).toNat)
  case atStart => exact ⟨0, by omega, by rw [H0.out]; rfl, rfl, E⟩
  case round =>
    clear E
    obtain ⟨k, hk, rfl, rfl, E⟩ := hrel
    by_cases hlt : k < 3
    · have hk3 : (k : Int) < 3 := by omega
      have hix := fun u => HI.out k hlt u
      rw [HP.out k hlt] at hix
      have hN := HN.out k hk
      have hbd := HB.out k hlt
      have hs := HS.out k
      clear HI HP HN HS HB H0
      obtain ⟨t1, ht1⟩ : ∃ z, WD (k + 1) = z := ⟨_, rfl⟩
      rw [ht1] at hs
      replace ht1 := Lib.hid ht1
      generalize WD k = t0 at *
      generalize a k = ak at *
      generalize m k = mk at *
      replace hs := Lib.hid hs
      go_wp2_with (first
        | ((with_reducible refine kn_stores (g := g5) (vs := i64s [(ak : Int), (mk : Int)]) E.out rfl rfl rfl rfl rfl ?hl ?h1 ?_); (case hl => exact ⟨rfl, rfl⟩); (case h1 => exact i64s_one _); clear E; intro u E0; have E := Lib.hid E0; clear E0)
        | ((with_reducible refine kn_load E.out rfl rfl rfl rfl ?_)) | ((with_reducible refine kn_load_if E.out rfl rfl rfl rfl ?_)) | ((with_reducible refine kn_loads E.out rfl rfl rfl ?_ ?_); (focus (first | rfl | (simp only [i64s_length, u8s_length]; first | rfl | assumption | omega)))) | ((with_reducible refine kn_loads_if E.out rfl rfl rfl ?_ ?_); (focus (first | rfl | (simp only [i64s_length, u8s_length]; first | rfl | assumption | omega)))) | ((with_reducible refine kn_stores E.out rfl rfl rfl rfl rfl ?_ ?_ ?_); (focus (first | exact ⟨rfl, rfl⟩ | (simp only [i64s_length, u8s_length]; refine ⟨?_, ?_⟩ <;> first | rfl | assumption | omega))); (focus (first | exact i64s_one _ | exact u8s_one _ | simp [Value.oneCell'])); clear E; intro u E0; have E := Lib.hid E0; clear E0) | ((with_reducible refine kn_alloc (o := ⟨some 5, _, _, _, _, _⟩) E.out rfl rfl ?_); clear E; intro g5 u E0 hb0; have E := Lib.hid E0; clear E0 hb0) | ((with_reducible refine kn_box (o := ⟨some 5, _, _, _, _, _⟩) E.out rfl rfl rfl ?_); clear E; intro g5 u E0 hb0; have E := Lib.hid E0; clear E0 hb0) | ((with_reducible refine kn_box_int (o := ⟨some 5, _, _, _, _, _⟩) E.out rfl rfl rfl ?_); clear E; intro g5 u E0 hb0; have E := Lib.hid E0; clear E0 hb0) | ((with_reducible refine kn_box_slice (o := ⟨some 5, _, _, _, _, _⟩) E.out rfl rfl rfl ?_); clear E; intro g5 u E0 hb0; have E := Lib.hid E0; clear E0 hb0) | ((with_reducible refine kn_box_bool (o := ⟨some 5, _, _, _, _, _⟩) E.out rfl rfl rfl ?_); clear E; intro g5 u E0 hb0; have E := Lib.hid E0; clear E0 hb0) | ((with_reducible refine kn_box_func (o := ⟨some 5, _, _, _, _, _⟩) E.out rfl rfl rfl ?_); clear E; intro g5 u E0 hb0; have E := Lib.hid E0; clear E0 hb0))
      go_roundw
      case rel => exact ⟨k + 1, by omega, by rw [ht1.out, hs.out]; go_num, by go_num, E.out.part _ _ (by repeat (first | exact List.Sublist.refl _ | apply List.Sublist.cons_cons | apply List.Sublist.cons)) (by simp)⟩
      case measure => simp [intOf]; try omega
    · have hk3 : ¬ ((k : Int) < 3) := by omega
      have ek : k = 3 := by omega
      subst ek
      clear HI HP HN HS HB hlt
      go_wp2_with (first | ((with_reducible refine kn_load E.out rfl rfl rfl rfl ?_)) | ((with_reducible refine kn_load_if E.out rfl rfl rfl rfl ?_)) | ((with_reducible refine kn_loads E.out rfl rfl rfl ?_ ?_); (focus (first | rfl | (simp only [i64s_length, u8s_length]; first | rfl | assumption | omega)))) | ((with_reducible refine kn_loads_if E.out rfl rfl rfl ?_ ?_); (focus (first | rfl | (simp only [i64s_length, u8s_length]; first | rfl | assumption | omega)))) | ((with_reducible refine kn_stores E.out rfl rfl rfl rfl rfl ?_ ?_ ?_); (focus (first | exact ⟨rfl, rfl⟩ | (simp only [i64s_length, u8s_length]; refine ⟨?_, ?_⟩ <;> first | rfl | assumption | omega))); (focus (first | exact i64s_one _ | exact u8s_one _ | simp [Value.oneCell'])); clear E; intro u E0; have E := Lib.hid E0; clear E0))
      go_ret
      exact ⟨rfl, E.out.bel⟩

theorem and7_any (n : Int) : bits .and .i64 n 7 = n % 8 := by
  have h := mask_any n 3 (by omega)
  rw [show wrap64 (wrap64 (2 ^ 3) - 1) = 7 from by decide +kernel] at h
  exact h
set_option maxHeartbeats 1000000 in
theorem distance_any (n : Int) (w : World) (hD : cellsF 0 (i64s disL) w) : Calls Tryd.prog 12 #[.int .i64 n] w fun e w' => e = .returned (.int .i64 (disV n)) ∧ w = w' := by
  obtain ⟨k, hk⟩ : ∃ k : Nat, n % 8 = (k : Int) := ⟨(n % 8).toNat, by omega⟩
  have hk8 : k < 8 := by omega
  have ha : bits .and .i64 n 7 = (k : Int) := by rw [and7_any, hk]
  have hv : disV n = disL.getD k 0 := by unfold disV; rw [hk]; rfl
  have hc := hD k _ (i64s_get disL k hk8)
  have hk8i : (k : Int) < 8 := by omega
  rw [hv]
  clear hv hk hD
  generalize disL.getD k 0 = v at *
  go_enter Tryd.func12, Tryd.ntmps12
  go_wp2
  go_ret
  exact ⟨rfl, rfl⟩
end Go.Proofs.YtgcijioiicmjiaaDoor
