/- The bytes of a block of two halves, by its parts; a block is its parts; no program. -/
import Derived.Test.YtpdpjljfloanfaaDoorE1Plain
import Derived.Test.YtpdpjljfloanfaaDoorBitApi
set_option linter.all false
namespace Go.Proofs.YtpdpjljfloanfaaDoor
open Bi Lv
namespace Eo
open Bc (z8 z8_lt)

/-- A block's bits. -/
def jG (d f : Bool) (Z : List Int) (i : Nat) : Bool :=
  if i < 24 then (if i % 8 < w1 d then (Z.getD (i / 8) 0).toNat.testBit (w1 d - 1 - i % 8) else (Z.getD (3 + i / 8) 0 % ((2 ^ w2 d : Nat) : Int)).toNat.testBit (7 - i % 8))
  else if i < 30 then (Z.getD (6 + (i - 24) / 3) 0).toNat.testBit (2 - (i - 24) % 3)
  else if i = 30 then d else if i = 31 then f
  else if i < 48 then (Z.getD (8 + pos (47 - i)) 0).toNat.testBit 1
  else (Z.getD (8 + pos (63 - i)) 0).toNat.testBit 0
theorem jG_a (d f : Bool) (Z : List Int) (c k : Nat) (hc : c < 3) (hk : k < w1 d) : (Z.getD c 0).toNat.testBit (w1 d - 1 - k) = jG d f Z (8 * c + k) := by
  have := w1_bd d
  unfold jG
  rw [if_pos (by omega), show (8 * c + k) % 8 = k by omega, if_pos hk, show (8 * c + k) / 8 = c by omega]
theorem jG_b (d f : Bool) (Z : List Int) (c k : Nat) (hc : c < 3) (hk : k < w2 d) : (Z.getD (3 + c) 0 % ((2 ^ w2 d : Nat) : Int)).toNat.testBit (w2 d - 1 - k) = jG d f Z (8 * c + w1 d + k) := by
  have := w1_bd d
  have := w_sum d
  unfold jG
  rw [if_pos (by omega), show (8 * c + w1 d + k) % 8 = w1 d + k by omega, if_neg (by omega), show (8 * c + w1 d + k) / 8 = c by omega, show 7 - (w1 d + k) = w2 d - 1 - k by omega]
theorem jG_t (d f : Bool) (Z : List Int) (t k : Nat) (ht : t < 2) (hk : k < 3) : (Z.getD (6 + t) 0).toNat.testBit (3 - 1 - k) = jG d f Z (24 + 3 * t + k) := by
  unfold jG
  rw [if_neg (by omega), if_pos (by omega), show (24 + 3 * t + k - 24) / 3 = t by omega, show (24 + 3 * t + k - 24) % 3 = k by omega]
theorem jG_d (d f : Bool) (Z : List Int) : jG d f Z 30 = d := rfl
theorem jG_f (d f : Bool) (Z : List Int) : jG d f Z 31 = f := rfl
theorem jG_hi (d f : Bool) (Z : List Int) (k : Nat) (hk : k < 16) : jG d f Z (47 - k) = (Z.getD (8 + pos k) 0).toNat.testBit 1 := by
  unfold jG
  rw [if_neg (by omega), if_neg (by omega), if_neg (by omega), if_neg (by omega), if_pos (by omega), show 47 - (47 - k) = k by omega]
theorem jG_lo (d f : Bool) (Z : List Int) (k : Nat) (hk : k < 16) : jG d f Z (63 - k) = (Z.getD (8 + pos k) 0).toNat.testBit 0 := by
  unfold jG
  rw [if_neg (by omega), if_neg (by omega), if_neg (by omega), if_neg (by omega), if_neg (by omega), show 63 - (63 - k) = k by omega]

/-- The bytes with the bits of S laid. -/
def lz (g S : Nat → Bool) : List Nat := lay z8 true 0 64 fun i => S i && g i
theorem lz_length (g S : Nat → Bool) : (lz g S).length = 8 := by unfold lz; rw [lay_length]; rfl
theorem lz_lt (g S : Nat → Bool) : ∀ x ∈ lz g S, x < 256 := lay_lt _ _ _ _ _
theorem lz_bit (g S : Nat → Bool) (i : Nat) (h : i < 64) : bt (lz g S) true i = (S i && g i) := by
  unfold lz
  rw [lay_bit _ _ _ _ _ _ (by show i < 8 * 8; omega), if_pos (by omega), Nat.sub_zero]
theorem lz_zero (g : Nat → Bool) : lz g (sN 0) = z8 := by
  refine ext_bits true (by rw [lz_length]; rfl) (lz_lt _ _) z8_lt fun i hi => ?_
  rw [lz_length] at hi
  have hz : bt z8 true i = false := by
    have h0 : ∀ j, j < 64 → bt z8 true j = false := by decide +kernel
    exact h0 i (by omega)
  rw [lz_bit _ _ _ (by omega), hz]
  simp [sN]
theorem lz_full (g : Nat → Bool) (S : Nat → Bool) (h : ∀ i, i < 64 → S i = true) : lz g S = lay z8 true 0 64 g :=
  lay_congr z8_lt fun k hk => by rw [h k hk]; rfl
theorem lz_st (g : Nat → Bool) {S S' : Nat → Bool} {p m N : Nat} (hp : p + m ≤ 64) (hN : ∀ k, k < m → N.testBit (m - 1 - k) = g (p + k)) (h : ∀ i, i < 64 → S' i = (S i || decide (p ≤ i ∧ i < p + m))) : st (lz g S) true p m N = lz g S' := by
  refine ext_bits true (by unfold st; rw [lay_length, lz_length, lz_length]) (st_lt _ _ _ _ _) (lz_lt _ _) fun i hi => ?_
  have hi' : i < 8 * (lz g S).length := by unfold st at hi; rwa [lay_length] at hi
  have h64 : i < 64 := by rw [lz_length] at hi'; omega
  unfold st
  rw [lay_bit _ _ _ _ _ _ hi', lz_bit _ _ _ h64, lz_bit _ _ _ h64, h i h64]
  by_cases h1 : p ≤ i ∧ i < p + m
  · rw [if_pos h1]
    simp only [if_true, hN (i - p) (by omega), show p + (i - p) = i by omega, h1, and_self, decide_true, Bool.or_true, Bool.true_and]
  · rw [if_neg h1]
    simp [h1]
/-- In order, from the first bit on. -/
def lP (g : Nat → Bool) (p : Nat) : List Nat := lz g (sN p)
theorem lP_length (g : Nat → Bool) (p : Nat) : (lP g p).length = 8 := lz_length _ _
theorem lP_zero (g : Nat → Bool) : lP g 0 = z8 := lz_zero g
theorem lP_st (g : Nat → Bool) {p m N q : Nat} (hq : p + m = q) (hp : q ≤ 64) (hN : ∀ k, k < m → N.testBit (m - 1 - k) = g (p + k)) : st (lP g p) true p m N = lP g q := by
  subst hq
  exact lz_st g hp hN fun i hi => by
    simp only [sN]; rw [Bool.eq_iff_iff]; simp only [Bool.or_eq_true, decide_eq_true_eq]; omega
/-- The texels' bits, one texel after another. -/
def sL (m i : Nat) : Bool := decide (i < 32 ∨ (i < 48 ∧ pos (47 - i) < m) ∨ (48 ≤ i ∧ pos (63 - i) < m))
def sM (m i : Nat) : Bool := sL m i || decide (i = 47 - pos m)
def lL (g : Nat → Bool) (m : Nat) : List Nat := lz g (sL m)
def lM (g : Nat → Bool) (m : Nat) : List Nat := lz g (sM m)
theorem lL_length (g : Nat → Bool) (m : Nat) : (lL g m).length = 8 := lz_length _ _
theorem lM_length (g : Nat → Bool) (m : Nat) : (lM g m).length = 8 := lz_length _ _
theorem lL_zero (g : Nat → Bool) : lP g 32 = lL g 0 := by
  unfold lP lL lz
  exact lay_congr z8_lt fun k hk => by simp [sN, sL]
theorem bit0 {n m : Nat} (h : n < 2) (b : Bool) (hb : n = b.toNat) : ∀ k, k < 1 → n.testBit (1 - 1 - k) = b := by
  intro k hk
  subst hb
  obtain rfl : k = 0 := by omega
  cases b <;> rfl
theorem lM_st (g : Nat → Bool) (m N : Nat) (hm : m < 16) (hN : N = (g (47 - pos m)).toNat) : st (lL g m) true (47 - pos m) 1 N = lM g m := by
  have hp := pos_lt hm
  have hb := b_lt (g (47 - pos m))
  refine lz_st g (by omega) (fun k hk => ?_) fun i hi => ?_
  · have := bit0 (m := 0) (n := N) (by omega) (g (47 - pos m)) hN k hk
    rw [this, show 47 - pos m + k = 47 - pos m by omega]
  · simp only [sM]
    congr 1
    rw [decide_eq_decide]
    omega
theorem lL_st (g : Nat → Bool) (m N : Nat) (hm : m < 16) (hN : N = (g (63 - pos m)).toNat) : st (lM g m) true (63 - pos m) 1 N = lL g (m + 1) := by
  have hp := pos_lt hm
  have hb := b_lt (g (63 - pos m))
  refine lz_st g (by omega) (fun k hk => ?_) fun i hi => ?_
  · have := bit0 (m := 0) (n := N) (by omega) (g (63 - pos m)) hN k hk
    rw [this, show 63 - pos m + k = 63 - pos m by omega]
  · simp only [sM, sL]
    rw [Bool.eq_iff_iff]
    simp only [Bool.or_eq_true, decide_eq_true_eq]
    unfold pos at hp ⊢
    omega
theorem lL_full (g : Nat → Bool) : lL g 16 = lay z8 true 0 64 g := lz_full g _ fun i hi => by
  simp only [sL, decide_eq_true_eq]
  unfold pos
  omega
theorem lP_full (g : Nat → Bool) : lP g 64 = lay z8 true 0 64 g := lz_full g _ fun i hi => by simpa [sN] using hi

/-- One plane of the texels' bits, of the first m texels. -/
def plN (Z : List Int) (b m : Nat) : Nat := nm (fun k => decide (pos k < m) && (Z.getD (8 + pos k) 0).toNat.testBit b) 16
theorem plN_zero (Z : List Int) (b : Nat) : plN Z b 0 = 0 := by
  apply Nat.eq_of_testBit_eq
  intro k
  unfold plN
  rw [nm_bit]
  simp
theorem plN_lt (Z : List Int) (b m : Nat) : plN Z b m < 65536 := nm_lt _ 16
theorem plN_step (Z : List Int) (b m : Nat) (hm : m < 16) : plN Z b m ||| ((Z.getD (8 + m) 0).toNat.testBit b).toNat * 2 ^ pos m = plN Z b (m + 1) := by
  apply Nat.eq_of_testBit_eq
  intro q
  unfold plN
  rw [Nat.testBit_or, nm_bit, nm_bit, b_bit]
  have hp := pos_lt hm
  by_cases hq : q < 16
  · by_cases h2 : q = pos m
    · subst h2
      simp [hp, pos_pos hm]
    · have h3 : pos q ≠ m := fun e => h2 (by rw [← e, pos_pos hq])
      simp [hq, h2, show pos q < m + 1 ↔ pos q < m from ⟨fun _ => by omega, fun _ => by omega⟩]
  · simp [hq]
    intro e
    omega
theorem plN_hi (d f : Bool) (Z : List Int) (k : Nat) (hk : k < 16) : (plN Z 1 16).testBit (16 - 1 - k) = jG d f Z (32 + k) := by
  have h := jG_hi d f Z (15 - k) (by omega)
  rw [show 47 - (15 - k) = 32 + k by omega] at h
  unfold plN
  rw [h, nm_bit]
  have hp := pos_lt (show 16 - 1 - k < 16 by omega)
  simp [show 16 - 1 - k = 15 - k from rfl, show 15 - k < 16 from by omega, show pos (15 - k) < 16 from by simpa using hp]
theorem plN_lo (d f : Bool) (Z : List Int) (k : Nat) (hk : k < 16) : (plN Z 0 16).testBit (16 - 1 - k) = jG d f Z (48 + k) := by
  have h := jG_lo d f Z (15 - k) (by omega)
  rw [show 63 - (15 - k) = 48 + k by omega] at h
  unfold plN
  rw [h, nm_bit]
  have hp := pos_lt (show 16 - 1 - k < 16 by omega)
  simp [show 16 - 1 - k = 15 - k from rfl, show 15 - k < 16 from by omega, show pos (15 - k) < 16 from by simpa using hp]

/-- The block. -/
def jB (d f : Bool) (Z : List Int) : List Nat := lay z8 true 0 64 (jG d f Z)
theorem jB_length (d f : Bool) (Z : List Int) : (jB d f Z).length = 8 := by unfold jB; rw [lay_length]; rfl
theorem jB_lt (d f : Bool) (Z : List Int) : ∀ x ∈ jB d f Z, x < 256 := lay_lt _ _ _ _ _
theorem jB_bit (d f : Bool) (Z : List Int) (i : Nat) (h : i < 64) : bt (jB d f Z) true i = jG d f Z i := by
  unfold jB
  rw [lay_bit _ _ _ _ _ _ (by show i < 8 * 8; omega), if_pos (by omega), Nat.sub_zero]
def jV (d f : Bool) (Z : List Int) : List Nat := if okP d Z then jB d f Z else []
def jE (d : Bool) (Z : List Int) : Int := if okP d Z then 0 else 1
theorem jV_ok {d f : Bool} {Z : List Int} (h : okP d Z) : jV d f Z = jB d f Z := if_pos h
theorem jV_no {d f : Bool} {Z : List Int} (h : ¬ okP d Z) : jV d f Z = [] := if_neg h
theorem jE_ok {d : Bool} {Z : List Int} (h : okP d Z) : jE d Z = 0 := if_pos h
theorem jE_no {d : Bool} {Z : List Int} (h : ¬ okP d Z) : jE d Z = 1 := if_neg h

theorem G_jB (d f : Bool) (Z : List Int) (p m N : Nat) (hp : p + m ≤ 64) (hN : N < 2 ^ m) (h : ∀ k, k < m → N.testBit (m - 1 - k) = jG d f Z (p + k)) : G (jB d f Z) p m = (N : Int) := by
  unfold G
  rw [getN_eq hN fun k hk => ?_]
  rw [jB_bit _ _ _ _ (by omega), ← h (m - 1 - k) (by omega), show m - 1 - (m - 1 - k) = k by omega]
theorem toNat_lt {z : Int} {m : Nat} (h : 0 ≤ z ∧ z < ((2 ^ m : Nat) : Int)) : z.toNat < 2 ^ m := by omega
theorem back_D (d f : Bool) (Z : List Int) : pD (jB d f Z) = d := by unfold pD; rw [jB_bit _ _ _ _ (by omega)]; rfl
theorem back_F (d f : Bool) (Z : List Int) : pF (jB d f Z) = f := by unfold pF; rw [jB_bit _ _ _ _ (by omega)]; rfl
/-- A block's parts are those of which it was made. -/
theorem back_Z (d f : Bool) (Z : List Int) (hZ : Z.length = 24) (h : okP d Z) : pZ (jB d f Z) = Z := by
  refine getD_ext (by rw [pZ_length, hZ]) fun j hj => ?_
  rw [pZ_length] at hj
  rw [pZ_getD _ _ hj]
  have hw := w1_bd d
  have hw2 := w2_bd d
  have hs := w_sum d
  by_cases h1 : j < 3
  · rw [val_a _ _ h1, back_D, G_jB d f Z _ _ (Z.getD j 0).toNat (by omega) (toNat_lt (ok_a h h1)) fun k hk => jG_a d f Z j k h1 hk]
    have := ok_a h h1
    omega
  · by_cases h2 : j < 6
    · obtain ⟨c, rfl⟩ : ∃ c, j = 3 + c := ⟨j - 3, by omega⟩
      have hp : (0 : Int) < ((2 ^ w2 d : Nat) : Int) := by have := Nat.two_pow_pos (w2 d); omega
      have e1 := Int.emod_nonneg (Z.getD (3 + c) 0) (Int.ne_of_gt hp)
      have e2 := Int.emod_lt_of_pos (Z.getD (3 + c) 0) hp
      rw [val_b _ _ (by omega), back_D, G_jB d f Z _ _ (Z.getD (3 + c) 0 % ((2 ^ w2 d : Nat) : Int)).toNat (by omega) (by omega) fun k hk => jG_b d f Z c k (by omega) hk]
      obtain ⟨h3, h4⟩ := ok_b h (show c < 3 by omega)
      rw [Int.toNat_of_nonneg e1]
      cases d
      · have := h4 rfl
        unfold sg
        rw [if_neg (by simp)]
        exact Int.emod_eq_of_lt this.1 this.2
      · have := h3 rfl
        have e : ((2 ^ w2 true : Nat) : Int) = 8 := rfl
        rw [e]
        unfold sg
        by_cases h5 : 4 ≤ Z.getD (3 + c) 0 % 8
        · rw [if_pos ⟨rfl, h5⟩]; omega
        · rw [if_neg fun k => h5 k.2]; omega
    · by_cases h3 : j < 8
      · obtain ⟨k, rfl⟩ : ∃ k, j = 6 + k := ⟨j - 6, by omega⟩
        have := ok_t h (show k < 2 by omega)
        rw [val_t _ _ (by omega), G_jB d f Z _ _ (Z.getD (6 + k) 0).toNat (by omega) (by omega) fun q hq => jG_t d f Z k q (by omega) hq]
        omega
      · obtain ⟨i, rfl⟩ : ∃ i, j = 8 + i := ⟨j - 8, by omega⟩
        have hi : i < 16 := by omega
        have hp := pos_lt hi
        have := ok_w h hi
        have e1 := jG_hi d f Z (pos i) hp
        have e2 := jG_lo d f Z (pos i) hp
        rw [pos_pos hi] at e1 e2
        rw [val_w]
        unfold G
        rw [getN1, getN1, jB_bit _ _ _ _ (by omega), jB_bit _ _ _ _ (by omega), e1, e2]
        obtain ⟨n, hn⟩ : ∃ n : Nat, Z.getD (8 + i) 0 = (n : Int) := ⟨_, (Int.toNat_of_nonneg this.1).symm⟩
        rw [hn] at this ⊢
        rw [Int.toNat_natCast, ← bit_div, ← bit_div]
        omega
/-- A block is made of its parts. -/
theorem forth (xs : List Nat) (hl : xs.length = 8) (hx : ∀ x ∈ xs, x < 256) : jB (pD xs) (pF xs) (pZ xs) = xs := by
  refine ext_bits true (by rw [jB_length, hl]) (jB_lt _ _ _) hx fun i hi => ?_
  rw [jB_length] at hi
  rw [jB_bit _ _ _ _ (by omega)]
  unfold jG
  have hw := w1_bd (pD xs)
  have hw2 := w2_bd (pD xs)
  have hs := w_sum (pD xs)
  by_cases h1 : i < 24
  · rw [if_pos h1]
    by_cases h2 : i % 8 < w1 (pD xs)
    · rw [if_pos h2, pZ_getD _ _ (by omega), val_a _ _ (by omega)]
      unfold G
      rw [Int.toNat_natCast, getN_bit]
      simp only [show w1 (pD xs) - 1 - i % 8 < w1 (pD xs) from by omega, decide_true, Bool.true_and]
      congr 1
      omega
    · rw [if_neg h2, pZ_getD _ _ (by omega), val_b _ _ (by omega), sg_mod]
      unfold G
      rw [Int.toNat_natCast, getN_bit]
      simp only [show 7 - i % 8 < w2 (pD xs) from by omega, decide_true, Bool.true_and]
      congr 1
      omega
  · rw [if_neg h1]
    by_cases h2 : i < 30
    · rw [if_pos h2, pZ_getD _ _ (by omega), val_t _ _ (by omega)]
      unfold G
      rw [Int.toNat_natCast, getN_bit]
      simp only [show 2 - (i - 24) % 3 < 3 from by omega, decide_true, Bool.true_and]
      congr 1
      omega
    · rw [if_neg h2]
      by_cases h3 : i = 30
      · subst h3; rw [if_pos rfl]; rfl
      · rw [if_neg h3]
        by_cases h4 : i = 31
        · subst h4; rw [if_pos rfl]; rfl
        · rw [if_neg h4]
          have key : ∀ k, k < 16 → (pZ xs).getD (8 + pos k) 0 = 2 * G xs (47 - k) 1 + G xs (63 - k) 1 := fun k hk => by
            rw [pZ_getD _ _ (by have := pos_lt hk; omega), val_w, pos_pos hk]
          have kb : ∀ a b : Bool, ((2 * ((a.toNat : Nat) : Int) + ((b.toNat : Nat) : Int)).toNat.testBit 1 = a) ∧ ((2 * ((a.toNat : Nat) : Int) + ((b.toNat : Nat) : Int)).toNat.testBit 0 = b) := by decide
          by_cases h5 : i < 48
          · rw [if_pos h5, key _ (by omega)]
            unfold G
            rw [getN1, getN1, (kb _ _).1]
            congr 1
            omega
          · rw [if_neg h5, key _ (by omega)]
            unfold G
            rw [getN1, getN1, (kb _ _).2]
            congr 1
            omega
end Eo
end Go.Proofs.YtpdpjljfloanfaaDoor
