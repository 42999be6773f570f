/- The planar block of three colours, as the document lays it; no program. -/
import Derived.Test.YtgcijioiicmjiaaDoorE2Rput
set_option linter.all false
namespace Go.Proofs.YtgcijioiicmjiaaDoor
open Bi Lv
namespace Et
open Eo
open Bc (z8 z8_lt)

theorem byt_congr {g g' : Nat → Bool} (h : ∀ i, i < 64 → g i = g' i) : byt g = byt g' := by
  refine ext_bits true (by rw [by_length, by_length]) (lay_lt _ _ _ _ _) (lay_lt _ _ _ _ _) fun i hi => ?_
  have h64 : i < 64 := by rw [by_length] at hi; omega
  unfold byt
  rw [lay8_bit _ _ h64, lay8_bit _ _ h64, h i h64]
theorem byt_bit (g : Nat → Bool) (i : Nat) (h : i < 64) : bt (byt g) true i = g i := lay8_bit _ _ h
theorem byt_zero : byt (fun _ => false) = z8 := by
  refine ext_bits true (by rw [by_length]; rfl) (lay_lt _ _ _ _ _) z8_lt fun i hi => ?_
  have h64 : i < 64 := by rw [by_length] at hi; omega
  have hz : ∀ i, i < 64 → bt z8 true i = false := by decide +kernel
  rw [byt_bit _ _ h64, hz i h64]
/-- The bits behind s numbers. -/
def hG (L : Nat → Int) (s i : Nat) : Bool := decide ((tb i).1 < s) && lb L i
theorem tb_inv : ∀ i, i < 64 → (tb i).1 < 9 → (tb i).2 < (fd (tb i).1).length ∧ (fd (tb i).1).getD ((fd (tb i).1).length - 1 - (tb i).2) 0 = i := by decide +kernel
theorem div_bit (N k : Nat) : (N / 2 ^ k % 2).testBit 0 = N.testBit k := by
  rw [bit_div]
  cases N.testBit k <;> rfl
theorem gS_fd (g : Nat → Bool) (s : Nat) (hs : s < 9) (N : Nat) : ∀ k, k ≤ (fd s).length → ∀ i, i < 64 → gS g (fd s) N k i = if (tb i).1 = s ∧ (tb i).2 < k then N.testBit (tb i).2 else g i
  | 0, _, i, _ => by rw [if_neg (by omega)]; rfl
  | k + 1, hk, i, hi => by
    show (if i = (fd s).getD ((fd s).length - 1 - k) 0 then _ else gS g (fd s) N k i) = _
    have t := (tb_fd s hs ((fd s).length - 1 - k) (by omega)).1
    rw [show (fd s).length - 1 - ((fd s).length - 1 - k) = k by omega] at t
    by_cases h : i = (fd s).getD ((fd s).length - 1 - k) 0
    · rw [if_pos h, div_bit, h, t, if_pos ⟨rfl, by show k < k + 1; omega⟩]
    · rw [if_neg h, gS_fd g s hs N k (by omega) i hi]
      by_cases h2 : (tb i).1 = s ∧ (tb i).2 < k
      · rw [if_pos h2, if_pos ⟨h2.1, by omega⟩]
      · rw [if_neg h2, if_neg fun h3 => ?_]
        have e : (tb i).2 = k := by
          have := h3.2
          by_cases hq : (tb i).2 < k
          · exact absurd ⟨h3.1, hq⟩ h2
          · omega
        have v := (tb_inv i hi (by rw [h3.1]; exact hs)).2
        rw [h3.1, e] at v
        exact h v.symm
theorem hG_zero (L : Nat → Int) : byt (hG L 0) = z8 := by
  rw [← byt_zero]
  exact byt_congr fun i _ => by unfold hG; rw [decide_eq_false (by omega)]; rfl
theorem hG_next (L : Nat → Int) (s : Nat) (hs : s < 9) : byt (gS (hG L s) (fd s) (L s).toNat (fd s).length) = byt (hG L (s + 1)) := by
  refine byt_congr fun i hi => ?_
  rw [gS_fd _ s hs _ _ (Nat.le_refl _) i hi]
  unfold hG
  by_cases h : (tb i).1 = s
  · have v := (tb_inv i hi (by rw [h]; exact hs)).1
    rw [h] at v
    rw [if_pos ⟨h, v⟩, decide_eq_true (by omega), Bool.true_and]
    unfold lb
    rw [h, if_neg (by omega)]
  · rw [if_neg (fun h2 => h h2.1)]
    by_cases h2 : (tb i).1 < s
    · rw [decide_eq_true h2, decide_eq_true (by omega)]
    · rw [decide_eq_false h2, decide_eq_false (by omega)]
theorem hG_diff (L : Nat → Int) : byt (gS (hG L 9) [30] 1 1) = byt (lb L) := by
  refine byt_congr fun i hi => ?_
  show (if i = 30 then (1 / 2 ^ 0 % 2 : Nat).testBit 0 else hG L 9 i) = lb L i
  by_cases h : i = 30
  · subst h; rfl
  · rw [if_neg h]
    unfold hG
    obtain h1 | h1 := (st_all i hi).2
    · rw [decide_eq_true h1, Bool.true_and]
    · unfold lb
      rw [if_pos h1, decide_eq_false h, Bool.and_false]
/-- The bits behind c keepers. -/
def kG (L : Nat → Int) (c i : Nat) : Bool := if i = 0 then (decide (0 < c) && low L 0) else if i = 8 then (decide (1 < c) && low L 8) else lb L i
theorem kG_zero (L : Nat → Int) : byt (lb L) = byt (kG L 0) := by
  obtain ⟨l0, l8, -⟩ := lb_no L
  refine byt_congr fun i hi => ?_
  unfold kG
  by_cases h : i = 0
  · rw [if_pos h, h, l0]; rfl
  · rw [if_neg h]
    by_cases h8 : i = 8
    · rw [if_pos h8, h8, l8]; rfl
    · rw [if_neg h8]
theorem kG_put (L : Nat → Int) (c : Nat) (hc : c < 2) (h : low L (8 * c) = true) : byt (gS (kG L c) [8 * c] 1 1) = byt (kG L (c + 1)) := by
  refine byt_congr fun i hi => ?_
  show (if i = 8 * c then (1 / 2 ^ 0 % 2 : Nat).testBit 0 else kG L c i) = _
  unfold kG
  obtain rfl | rfl : c = 0 ∨ c = 1 := by omega
  · by_cases h0 : i = 0
    · rw [if_pos (by omega), if_pos h0, h]; rfl
    · rw [if_neg (by omega), if_neg h0, if_neg h0]; rfl
  · by_cases h0 : i = 8
    · rw [if_pos (by omega), if_neg (by omega), if_pos h0, h]; rfl
    · rw [if_neg (by omega), if_neg h0, if_neg h0]; rfl
theorem kG_keep (L : Nat → Int) (c : Nat) (hc : c < 2) (h : low L (8 * c) = false) : byt (kG L c) = byt (kG L (c + 1)) := by
  refine byt_congr fun i hi => ?_
  unfold kG
  obtain rfl | rfl : c = 0 ∨ c = 1 := by omega
  · rw [h]; rfl
  · rw [h]; rfl
theorem kG_above (L : Nat → Int) (h : big L = true) : byt (gS (kG L 2) [16, 17, 18] 7 3) = lB L := by
  obtain ⟨-, -, -, -, -, l21⟩ := lb_no L
  refine byt_congr fun i hi => ?_
  show (if i = 16 then (7 / 2 ^ 2 % 2 : Nat).testBit 0 else if i = 17 then (7 / 2 ^ 1 % 2 : Nat).testBit 0 else if i = 18 then (7 / 2 ^ 0 % 2 : Nat).testBit 0 else kG L 2 i) = lG L i
  unfold lG kG
  by_cases a : i = 16 ∨ i = 17 ∨ i = 18
  · rw [if_neg (show ¬ i = 0 by omega), if_neg (show ¬ i = 0 by omega), if_neg (show ¬ i = 8 by omega), if_neg (show ¬ i = 8 by omega), if_pos a, h]
    rcases a with rfl | rfl | rfl <;> rfl
  · rw [if_neg (show ¬ i = 16 by omega), if_neg (show ¬ i = 17 by omega), if_neg (show ¬ i = 18 by omega), if_neg a]
    by_cases b : i = 21
    · subst b; rw [h, l21]; rfl
    · rw [if_neg b]; rfl
theorem kG_below (L : Nat → Int) (h : big L = false) : byt (gS (kG L 2) [21] 1 1) = lB L := by
  obtain ⟨-, -, l16, l17, l18, -⟩ := lb_no L
  refine byt_congr fun i hi => ?_
  show (if i = 21 then (1 / 2 ^ 0 % 2 : Nat).testBit 0 else kG L 2 i) = lG L i
  unfold lG kG
  by_cases b : i = 21
  · subst b; rw [h]; rfl
  · rw [if_neg b]
    by_cases a : i = 16 ∨ i = 17 ∨ i = 18
    · rw [if_neg (show ¬ i = 0 by omega), if_neg (show ¬ i = 0 by omega), if_neg (show ¬ i = 8 by omega), if_neg (show ¬ i = 8 by omega), if_pos a, h]
      rcases a with rfl | rfl | rfl
      · exact l16
      · exact l17
      · exact l18
    · rw [if_neg a, if_neg b]; rfl
theorem kG_D (L : Nat → Int) (c : Nat) : pD (byt (kG L c)) = true := by
  unfold pD
  rw [byt_bit _ _ (by omega)]
  rfl
theorem sum_bd : ∀ b1 b2 b3 b4 b5 b6 b7 : Bool, n4 b1 b2 b3 b4 + sg true (n3 b5 b6 b7) ≤ 31 ∧ -9 ≤ n4 b1 b2 b3 b4 + sg true (n3 b5 b6 b7) := by decide +kernel
/-- A channel's two numbers: their sum is less than 0 where the channel would go too far, and never too great. -/
theorem kG_sum (L : Nat → Int) (c : Nat) (hc : c < 2) : low L (8 * c) = decide ((pZ (byt (kG L c))).getD c 0 + (pZ (byt (kG L c))).getD (3 + c) 0 < 0) ∧ (pZ (byt (kG L c))).getD c 0 + (pZ (byt (kG L c))).getD (3 + c) 0 ≤ 31 ∧ -9 ≤ (pZ (byt (kG L c))).getD c 0 + (pZ (byt (kG L c))).getD (3 + c) 0 := by
  have hD := kG_D L c
  have e : (pZ (byt (kG L c))).getD c 0 + (pZ (byt (kG L c))).getD (3 + c) 0 = n4 (lb L (8 * c + 1)) (lb L (8 * c + 2)) (lb L (8 * c + 3)) (lb L (8 * c + 4)) + sg true (n3 (lb L (8 * c + 5)) (lb L (8 * c + 6)) (lb L (8 * c + 7))) := by
    rw [pZ_getD _ _ (by omega), pZ_getD _ _ (by omega), val_b _ _ (by omega), val_a _ _ (by omega), hD]
    show G _ (8 * c) 5 + sg true (G _ (8 * c + 5) 3) = _
    rw [G5, G3]
    have k : ∀ j, 1 ≤ j → j ≤ 7 → bt (byt (kG L c)) true (8 * c + j) = lb L (8 * c + j) := fun j h1 h7 => by
      rw [byt_bit _ _ (by omega)]
      unfold kG
      rw [if_neg (by omega), if_neg (by omega)]
    have k0 : bt (byt (kG L c)) true (8 * c) = false := by
      rw [byt_bit _ _ (by omega)]
      unfold kG
      obtain rfl | rfl : c = 0 ∨ c = 1 := by omega
      · rfl
      · rfl
    rw [k0, k 1 (by omega) (by omega), k 2 (by omega) (by omega), k 3 (by omega) (by omega), k 4 (by omega) (by omega), k 5 (by omega) (by omega), k 6 (by omega) (by omega), k 7 (by omega) (by omega)]
    simp
  rw [e]
  exact ⟨rfl, sum_bd _ _ _ _ _ _ _⟩
theorem kG_run (L : Nat → Int) : G (byt (kG L 2)) 19 2 = n2 (lb L 19) (lb L 20) ∧ G (byt (kG L 2)) 22 2 = n2 (lb L 22) (lb L 23) := by
  have k : ∀ i, 19 ≤ i → i ≤ 23 → bt (byt (kG L 2)) true i = lb L i := fun i h1 h2 => by
    rw [byt_bit _ _ (by omega)]
    unfold kG
    rw [if_neg (by omega), if_neg (by omega)]
  rw [G_bits, G_bits]
  constructor
  · show ((bN _ [19 + 0, 19 + 1] 0 : Nat) : Int) = _
    simp only [bN, n2]
    rw [k 19 (by omega) (by omega), k 20 (by omega) (by omega)]
    omega
  · show ((bN _ [22 + 0, 22 + 1] 0 : Nat) : Int) = _
    simp only [bN, n2]
    rw [k 22 (by omega) (by omega), k 23 (by omega) (by omega)]
    omega
end Et
end Go.Proofs.YtgcijioiicmjiaaDoor
