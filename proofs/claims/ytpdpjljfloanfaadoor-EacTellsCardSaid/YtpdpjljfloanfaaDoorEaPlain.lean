/- Blocks of one number for each texel as plain functions: tables, parts, values, the bytes of a block's parts; no program. -/
import Derived.Test.YtpdpjljfloanfaaDoorE1JoinP
import Derived.Test.YtpdpjljfloanfaaDoorBfPlain
set_option linter.all false
namespace Go.Proofs.YtpdpjljfloanfaaDoor
open Bi Lv Bc
namespace Ea
open Eo (pos pos_lt pos_pos getN_bit getN_lt' getN_eq G G_bd lz lz_length lz_lt lz_bit lz_full lz_st)
open Bf (seP seP_length seP_getD seP_gets okW)

/-! Tables and values. -/
def numE : List Int := [-3, -6, -9, -15, 2, 5, 8, 14, -3, -7, -10, -13, 2, 6, 9, 12, -2, -5, -8, -13, 1, 4, 7, 12, -2, -4, -6, -13, 1, 3, 5, 12, -3, -6, -8, -12, 2, 5, 7, 11, -3, -7, -9, -11, 2, 6, 8, 10, -4, -7, -8, -11, 3, 6, 7, 10, -3, -5, -8, -11, 2, 4, 7, 10, -2, -6, -8, -10, 1, 5, 7, 9, -2, -5, -8, -10, 1, 4, 7, 9, -2, -4, -8, -10, 1, 3, 7, 9, -2, -5, -7, -10, 1, 4, 6, 9, -3, -4, -7, -10, 2, 3, 6, 9, -1, -2, -3, -10, 0, 1, 2, 9, -4, -6, -8, -9, 3, 5, 7, 8, -3, -5, -7, -9, 2, 4, 6, 8]
theorem numE_length : numE.length = 128 := by decide +kernel
def tabE (k : Nat) : List Int := (numE.drop (k * 8)).take 8
def tabV (n : Int) : List Int := tabE (n % 16).toNat
theorem tabE_length (k : Nat) (h : k < 16) : (tabE k).length = 8 := by
  unfold tabE
  rw [List.length_take, List.length_drop, numE_length]
  omega
theorem tabV_length (n : Int) : (tabV n).length = 8 := tabE_length _ (by omega)
theorem tabE_bd : ∀ k, k < 16 → ∀ j, j < 8 → -15 ≤ (tabE k).getD j 0 ∧ (tabE k).getD j 0 ≤ 15 := by decide +kernel
theorem tabV_bd (n : Int) (j : Nat) : -15 ≤ (tabV n).getD j 0 ∧ (tabV n).getD j 0 ≤ 15 := by
  by_cases h : j < 8
  · exact tabE_bd _ (by omega) j h
  · rw [List.getD_eq_getElem?_getD, List.getElem?_eq_none (by rw [tabV_length]; omega)]
    exact ⟨by decide, by decide⟩
def valE (b t n : Int) (wide : Bool) : Int := if wide = true then clampV (8 * b + 4 + n * (if t = 0 then 1 else 8 * t)) 2047 else clampV (b + n * t) 255
theorem valE_bd (b t n : Int) (wide : Bool) : 0 ≤ valE b t n wide ∧ valE b t n wide ≤ if wide = true then 2047 else 255 := by
  unfold valE clampV
  cases wide <;> simp <;> omega
theorem valE_up (b c t n : Int) (wide : Bool) (h : b ≤ c) : valE b t n wide ≤ valE c t n wide := by
  unfold valE clampV
  cases wide
  · simp only [Bool.false_eq_true, if_false]
    omega
  · simp only [if_true]
    omega
theorem valE_zero (b n : Int) (h : 0 ≤ b ∧ b ≤ 255) : valE b 0 n false = b := by
  unfold valE clampV
  simp only [Bool.false_eq_true, if_false, Int.mul_zero]
  omega

/-! Rows of sixteen, some of them laid. -/
def prog (S : Nat → Bool) (f : Nat → Int) : List Int := (List.range 16).map fun i => if S i = true then f i else 0
theorem prog_length (S : Nat → Bool) (f : Nat → Int) : (prog S f).length = 16 := by simp [prog]
theorem prog_get (S : Nat → Bool) (f : Nat → Int) (i : Nat) (h : i < 16) : (prog S f).getD i 0 = if S i = true then f i else 0 := by
  simp [prog, List.getD_eq_getElem?_getD, h]
theorem list_ext {l m : List Int} {n : Nat} (hl : l.length = n) (hm : m.length = n) (h : ∀ i, i < n → l.getD i 0 = m.getD i 0) : l = m := by
  apply List.ext_getElem (by rw [hl, hm])
  intro i h1 h2
  have := h i (by omega)
  rw [List.getD_eq_getElem?_getD, List.getD_eq_getElem?_getD, List.getElem?_eq_getElem h1, List.getElem?_eq_getElem h2] at this
  exact this
theorem getD_set_int (xs : List Int) (j k : Nat) (v : Int) (h : j < xs.length) : (xs.set j v).getD k 0 = if k = j then v else xs.getD k 0 := by
  rw [List.getD_eq_getElem?_getD, List.getElem?_set]
  by_cases e : j = k
  · subst e
    rw [if_pos rfl, if_pos h, if_pos rfl]
    rfl
  · rw [if_neg e, if_neg (by omega), ← List.getD_eq_getElem?_getD]
theorem prog_set {S S' : Nat → Bool} (f : Nat → Int) (j : Nat) (hj : j < 16) (h : ∀ i, i < 16 → S' i = (S i || decide (i = j))) : (prog S f).set j (f j) = prog S' f := by
  refine list_ext (n := 16) (by rw [List.length_set, prog_length]) (prog_length _ _) fun i hi => ?_
  rw [getD_set_int _ _ _ _ (by rw [prog_length]; exact hj), prog_get _ _ _ hi, prog_get _ _ _ hi, h i hi]
  by_cases e : i = j
  · subst e
    simp
  · simp [e]
theorem prog_congr {S S' : Nat → Bool} {f f' : Nat → Int} (h : ∀ i, i < 16 → S i = S' i) (hf : ∀ i, i < 16 → f i = f' i) : prog S f = prog S' f' :=
  list_ext (n := 16) (prog_length _ _) (prog_length _ _) fun i hi => by rw [prog_get _ _ _ hi, prog_get _ _ _ hi, h i hi, hf i hi]
theorem prog_none (S : Nat → Bool) (f : Nat → Int) (h : ∀ i, i < 16 → S i = false) : prog S f = z16 :=
  list_ext (n := 16) (prog_length _ _) (by rfl) fun i hi => by
    have hz : ∀ i, i < 16 → z16.getD i 0 = 0 := by decide
    rw [prog_get _ _ _ hi, h i hi, if_neg (by decide), hz i hi]

/-! A block's parts. -/
def whE (xs : List Nat) : List Int := prog (fun _ => true) fun i => G xs (16 + 3 * pos i) 3
theorem whE_length (xs : List Nat) : (whE xs).length = 16 := prog_length _ _
theorem whE_get (xs : List Nat) (i : Nat) (h : i < 16) : (whE xs).getD i 0 = G xs (16 + 3 * pos i) 3 := by
  unfold whE
  rw [prog_get _ _ _ h, if_pos rfl]
theorem whE_bd (xs : List Nat) (i : Nat) (h : i < 16) : 0 ≤ (whE xs).getD i 0 ∧ (whE xs).getD i 0 < 8 := by
  rw [whE_get _ _ h]
  exact G_bd _ _ _
/-- The document's, the first k of them laid. -/
def rwP (xs : List Nat) (k : Nat) : List Int := prog (fun i => decide (i < k)) fun i => G xs (16 + 3 * pos i) 3
theorem rwP_length (xs : List Nat) (k : Nat) : (rwP xs k).length = 16 := prog_length _ _
theorem rwP_zero (xs : List Nat) : rwP xs 0 = z16 := prog_none _ _ fun i _ => by simp
theorem rwP_set (xs : List Nat) (k : Nat) (h : k < 16) : (rwP xs k).set k (G xs (16 + 3 * pos k) 3) = rwP xs (k + 1) :=
  prog_set _ k h fun i _ => by rw [Bool.eq_iff_iff]; simp; omega
theorem rwP_full (xs : List Nat) : rwP xs 16 = whE xs := prog_congr (fun i hi => by simp [hi]) fun _ _ => rfl
/-- The program's, out of one number, from the last one on. -/
def unP (N k : Nat) : List Int := prog (fun i => decide (15 < pos i + k)) fun i => ((N / 8 ^ (15 - pos i) % 8 : Nat) : Int)
theorem unP_length (N k : Nat) : (unP N k).length = 16 := prog_length _ _
theorem unP_zero (N : Nat) : unP N 0 = z16 := prog_none _ _ fun i hi => by have := pos_lt hi; simp; omega
theorem unP_set (N k : Nat) (h : k < 16) : (unP N k).set (pos (15 - k)) (((N / 8 ^ k % 8 : Nat) : Int)) = unP N (k + 1) := by
  have e := prog_set (S := fun i => decide (15 < pos i + k)) (S' := fun i => decide (15 < pos i + (k + 1))) (fun i => ((N / 8 ^ (15 - pos i) % 8 : Nat) : Int)) (pos (15 - k)) (pos_lt (by omega)) fun i hi => by
    have h1 := pos_lt hi
    have h2 := pos_pos hi
    have h3 := pos_pos (show 15 - k < 16 by omega)
    rw [Bool.eq_iff_iff]
    simp only [decide_eq_true_eq, Bool.or_eq_true]
    constructor
    · intro h4
      by_cases h5 : 15 < pos i + k
      · exact .inl h5
      · right
        rw [show 15 - k = pos i by omega, h2]
    · rintro (h4 | h4)
      · omega
      · rw [h4, h3]
        omega
  rw [pos_pos (show 15 - k < 16 by omega), show 15 - (15 - k) = k by omega] at e
  exact e
theorem sub_bits (xs : List Nat) (j : Nat) (h : j < 16) : getN xs true 16 48 / 8 ^ (15 - j) % 8 = getN xs true (16 + 3 * j) 3 := by
  apply Nat.eq_of_testBit_eq
  intro k
  rw [show (8 : Nat) ^ (15 - j) = 2 ^ (3 * (15 - j)) from by rw [Nat.pow_mul], show getN xs true 16 48 / 2 ^ (3 * (15 - j)) % 8 = getN xs true 16 48 / 2 ^ (3 * (15 - j)) % 2 ^ 3 from rfl, Nat.testBit_mod_two_pow, Nat.testBit_div_two_pow, getN_bit, getN_bit]
  by_cases hk : k < 3
  · simp only [hk, decide_true, Bool.true_and]
    rw [decide_eq_true (by omega), Bool.true_and]
    congr 1
    omega
  · simp [hk]
theorem unP_full (xs : List Nat) : unP (getN xs true 16 48) 16 = whE xs := prog_congr (fun i _ => by simp) fun i hi => by
  rw [sub_bits xs (pos i) (pos_lt hi)]
  rfl
theorem z16_length : z16.length = 16 := rfl

/-- Of whatever bytes. -/
def eaB (n : Nat) (xs : List Nat) : Int := if n = 8 then G xs 0 8 else 0
def eaT (n : Nat) (xs : List Nat) : Int := if n = 8 then G xs 8 4 else 0
def eaN (n : Nat) (xs : List Nat) : Int := if n = 8 then G xs 12 4 else 0
def eaW (n : Nat) (xs : List Nat) : List Int := if n = 8 then whE xs else z16
def eaE (n : Nat) : Int := if n = 8 then 0 else 1
theorem eaW_length (n : Nat) (xs : List Nat) : (eaW n xs).length = 16 := by unfold eaW; split; exact whE_length xs; rfl
theorem eaW_bd (n : Nat) (xs : List Nat) (i : Nat) (h : i < 16) : 0 ≤ (eaW n xs).getD i 0 ∧ (eaW n xs).getD i 0 < 8 := by
  unfold eaW
  split
  · exact whE_bd xs i h
  · have hz : ∀ i, i < 16 → z16.getD i 0 = 0 := by decide
    rw [hz i h]
    decide
theorem eaB_bd (n : Nat) (xs : List Nat) : 0 ≤ eaB n xs ∧ eaB n xs < 256 := by
  unfold eaB
  split
  · exact G_bd _ _ _
  · decide
theorem eaT_bd (n : Nat) (xs : List Nat) : 0 ≤ eaT n xs ∧ eaT n xs < 16 := by
  unfold eaT
  split
  · exact G_bd _ _ _
  · decide
theorem eaN_bd (n : Nat) (xs : List Nat) : 0 ≤ eaN n xs ∧ eaN n xs < 16 := by
  unfold eaN
  split
  · exact G_bd _ _ _
  · decide

/-! A block's numbers. -/
def vasE (b t n : Int) (wide : Bool) : List Int := seP (tabV n) (fun z => valE b t z wide) (tabV n) 8
theorem vasE_length (b t n : Int) (wide : Bool) : (vasE b t n wide).length = 8 := by unfold vasE; rw [seP_length, tabV_length]
theorem vasE_get (b t n : Int) (wide : Bool) (j : Nat) (h : j < 8) : (vasE b t n wide).getD j 0 = valE b t ((tabV n).getD j 0) wide := seP_gets 8 _ _ _ (tabV_length n) j h
def deE (b t n : Int) (wide : Bool) (W : List Int) : List Int := seP z16 (fun z => (vasE b t n wide).getD z.toNat 0) W 16
theorem deE_length (b t n : Int) (wide : Bool) (W : List Int) : (deE b t n wide W).length = 16 := by unfold deE; rw [seP_length]; rfl
theorem deE_get (b t n : Int) (wide : Bool) (W : List Int) (hW : ∀ i, i < 16 → 0 ≤ W.getD i 0 ∧ W.getD i 0 < 8) (i : Nat) (h : i < 16) : (deE b t n wide W).getD i 0 = valE b t ((tabV n).getD (W.getD i 0).toNat 0) wide := by
  unfold deE
  rw [seP_gets 16 _ _ _ rfl i h, vasE_get _ _ _ _ _ (by have := hW i h; omega)]
/-- The document's way. -/
def rdP (b t n : Int) (wide : Bool) (W : List Int) (k : Nat) : List Int := seP W (fun z => valE b t ((tabV n).getD z.toNat 0) wide) W k
theorem rdP_length (b t n : Int) (wide : Bool) (W : List Int) (k : Nat) : (rdP b t n wide W k).length = W.length := seP_length _ _ _ _
theorem rdP_full (b t n : Int) (wide : Bool) (W : List Int) (hl : W.length = 16) (hW : ∀ i, i < 16 → 0 ≤ W.getD i 0 ∧ W.getD i 0 < 8) : rdP b t n wide W 16 = deE b t n wide W :=
  list_ext (n := 16) (by rw [rdP_length, hl]) (deE_length _ _ _ _ _) fun i hi => by
    rw [deE_get _ _ _ _ _ hW i hi]
    unfold rdP
    rw [seP_gets 16 _ _ _ hl i hi]
def eaV (n : Nat) (xs : List Nat) (wide : Bool) : List Int := if n = 8 then deE (eaB n xs) (eaT n xs) (eaN n xs) wide (eaW n xs) else z16
theorem eaV_length (n : Nat) (xs : List Nat) (wide : Bool) : (eaV n xs wide).length = 16 := by unfold eaV; split; exact deE_length _ _ _ _ _; rfl

/-! The bytes of a block's parts. -/
def pkE (W : List Int) (i : Nat) : Bool := (W.getD (pos (i / 3)) 0).toNat.testBit (2 - i % 3)
def jG (b t n : Int) (W : List Int) (i : Nat) : Bool :=
  if i < 8 then b.toNat.testBit (7 - i) else if i < 12 then t.toNat.testBit (11 - i) else if i < 16 then n.toNat.testBit (15 - i) else pkE W (i - 16)
def okJ (b t n : Int) (W : List Int) : Prop := (0 ≤ b ∧ b < 256) ∧ (0 ≤ t ∧ t < 16) ∧ (0 ≤ n ∧ n < 16) ∧ okW W 3
instance (b t n : Int) (W : List Int) : Decidable (okJ b t n W) := by unfold okJ; infer_instance
def jB (b t n : Int) (W : List Int) : List Nat := lay z8 true 0 64 (jG b t n W)
def jV (b t n : Int) (W : List Int) : List Nat := if okJ b t n W then jB b t n W else []
def jE (b t n : Int) (W : List Int) : Int := if okJ b t n W then 0 else 1
theorem jB_length (b t n : Int) (W : List Int) : (jB b t n W).length = 8 := by unfold jB; rw [lay_length]; rfl
theorem jB_lt (b t n : Int) (W : List Int) : ∀ x ∈ jB b t n W, x < 256 := lay_lt _ _ _ _ _
theorem jB_bit (b t n : Int) (W : List Int) (i : Nat) (h : i < 64) : bt (jB b t n W) true i = jG b t n W i := by
  unfold jB
  rw [lay_bit _ _ _ _ _ _ (by show i < 8 * 8; omega), if_pos (by omega), Nat.sub_zero]
section
variable {b t n : Int} {W : List Int}
theorem jV_ok (h : okJ b t n W) : jV b t n W = jB b t n W := if_pos h
theorem jV_no (h : ¬ okJ b t n W) : jV b t n W = [] := if_neg h
theorem jE_ok (h : okJ b t n W) : jE b t n W = 0 := if_pos h
theorem jE_no (h : ¬ okJ b t n W) : jE b t n W = 1 := if_neg h
end
/-- Bits of a number, the first one the highest. -/
def hn (g : Nat → Bool) (p m : Nat) : Nat := nm (fun k => g (p + (m - 1 - k))) m
theorem hn_lt (g : Nat → Bool) (p m : Nat) : hn g p m < 2 ^ m := nm_lt _ m
theorem hn_bit (g : Nat → Bool) (p m k : Nat) : (hn g p m).testBit k = (decide (k < m) && g (p + (m - 1 - k))) := by unfold hn; rw [nm_bit]
theorem hn_step (g : Nat → Bool) (p m q x : Nat) (hx : x < 2 ^ q) (h : ∀ k, k < q → x.testBit k = g (p + m + (q - 1 - k))) : hn g p m * 2 ^ q ||| x = hn g p (m + q) := by
  apply Nat.eq_of_testBit_eq
  intro k
  rw [Nat.testBit_or, mul_bit, hn_bit, hn_bit]
  by_cases hk : k < q
  · rw [h k hk, decide_eq_false (show ¬ q ≤ k by omega), decide_eq_true (show k < m + q by omega)]
    simp only [Bool.false_and, Bool.false_or, Bool.true_and]
    congr 1
    omega
  · rw [Nat.testBit_lt_two_pow (Nat.lt_of_lt_of_le hx (Nat.pow_le_pow_right (by omega) (by omega))), decide_eq_true (show q ≤ k by omega)]
    by_cases hk2 : k < m + q
    · rw [decide_eq_true hk2, decide_eq_true (show k - q < m by omega)]
      simp only [Bool.true_and, Bool.or_false]
      congr 1
      omega
    · rw [decide_eq_false hk2, decide_eq_false (show ¬ k - q < m by omega)]
      simp
theorem hn_zero (g : Nat → Bool) (p : Nat) : hn g p 0 = 0 := rfl
theorem st_hn (g : Nat → Bool) : st z8 true 0 64 (hn g 0 64) = lay z8 true 0 64 g := by
  unfold st
  refine lay_congr z8_lt fun k hk => ?_
  rw [if_pos rfl, hn_bit, decide_eq_true (by omega), Bool.true_and]
  congr 1
  omega
/-- Packed: one index more. -/
theorem pack_step (W : List Int) (k : Nat) (hk : k < 16) (hw : 0 ≤ W.getD (pos k) 0 ∧ W.getD (pos k) 0 < 8) : hn (pkE W) 0 (3 * k) * 8 ||| (W.getD (pos k) 0).toNat = hn (pkE W) 0 (3 * (k + 1)) := by
  have := hn_step (pkE W) 0 (3 * k) 3 (W.getD (pos k) 0).toNat (by show _ < 8; omega) fun q hq => by
    unfold pkE
    rw [show 0 + 3 * k + (3 - 1 - q) = 3 * k + (2 - q) by omega, show (3 * k + (2 - q)) / 3 = k by omega, show (3 * k + (2 - q)) % 3 = 2 - q by omega, show 2 - (2 - q) = q by omega]
  exact this
theorem join_head (b t n : Int) (W : List Int) (hb : 0 ≤ b ∧ b < 256) (ht : 0 ≤ t ∧ t < 16) (hn' : 0 ≤ n ∧ n < 16) : ((b.toNat * 16 ||| t.toNat) * 16 ||| n.toNat) * 2 ^ 48 ||| hn (pkE W) 0 48 = hn (jG b t n W) 0 64 := by
  have e1 : b.toNat = hn (jG b t n W) 0 8 := by
    apply Nat.eq_of_testBit_eq
    intro k
    rw [hn_bit]
    by_cases hk : k < 8
    · rw [decide_eq_true hk, Bool.true_and]
      unfold jG
      rw [if_pos (by omega)]
      congr 1
      omega
    · rw [decide_eq_false hk, Bool.false_and, Nat.testBit_lt_two_pow (Nat.lt_of_lt_of_le (show b.toNat < 2 ^ 8 by show _ < 256; omega) (Nat.pow_le_pow_right (by omega) (by omega)))]
  have e2 := hn_step (jG b t n W) 0 8 4 t.toNat (by show _ < 16; omega) fun k hk => by
    unfold jG
    rw [if_neg (by omega), if_pos (by omega)]
    congr 1
    omega
  have e3 := hn_step (jG b t n W) 0 12 4 n.toNat (by show _ < 16; omega) fun k hk => by
    unfold jG
    rw [if_neg (by omega), if_neg (by omega), if_pos (by omega)]
    congr 1
    omega
  have e4 := hn_step (jG b t n W) 0 16 48 (hn (pkE W) 0 48) (hn_lt _ _ _) fun k hk => by
    rw [hn_bit, decide_eq_true hk, Bool.true_and]
    unfold jG
    rw [if_neg (by omega), if_neg (by omega), if_neg (by omega)]
    congr 1
    omega
  rw [← e4, ← e3, ← e2, ← e1]
/-- The document's bytes, by what is laid. -/
def sJ (m i : Nat) : Bool := decide (i < 16 ∨ pos ((i - 16) / 3) < m)
def lJ (g : Nat → Bool) (m : Nat) : List Nat := lz g (sJ m)
theorem lJ_length (g : Nat → Bool) (m : Nat) : (lJ g m).length = 8 := lz_length _ _
theorem lJ_full (g : Nat → Bool) : lJ g 16 = lay z8 true 0 64 g := lz_full g _ fun i hi => by
  have := pos_lt (show (i - 16) / 3 < 16 by omega)
  simp [sJ]
  omega
theorem lJ_st (b t n : Int) (W : List Int) (m : Nat) (hm : m < 16) : st (lJ (jG b t n W) m) true (16 + 3 * pos m) 3 (W.getD m 0).toNat = lJ (jG b t n W) (m + 1) := by
  have hp := pos_lt hm
  refine lz_st _ (by omega) (fun k hk => ?_) fun i hi => ?_
  · unfold jG pkE
    rw [if_neg (by omega), if_neg (by omega), if_neg (by omega), show (16 + 3 * pos m + k - 16) / 3 = pos m by omega, show (16 + 3 * pos m + k - 16) % 3 = k by omega, pos_pos hm]
  · unfold sJ
    rw [Bool.eq_iff_iff]
    simp only [decide_eq_true_eq, Bool.or_eq_true]
    by_cases h16 : i < 16
    · omega
    · have hj := pos_lt (show (i - 16) / 3 < 16 by omega)
      have hpp := pos_pos (show (i - 16) / 3 < 16 by omega)
      constructor
      · rintro (h | h)
        · exact .inl (.inl h)
        · by_cases e : pos ((i - 16) / 3) = m
          · right
            rw [← e, hpp]
            omega
          · left; right; omega
      · rintro ((h | h) | h)
        · exact .inl h
        · right; omega
        · right
          have e : (i - 16) / 3 = pos m := by omega
          rw [e, pos_pos hm]
          omega
theorem lJ_zero (b t n : Int) (W : List Int) (hb : 0 ≤ b ∧ b < 256) (ht : 0 ≤ t ∧ t < 16) (hn' : 0 ≤ n ∧ n < 16) : [b.toNat, 16 * t.toNat + n.toNat, 0, 0, 0, 0, 0, 0] = lJ (jG b t n W) 0 := by
  refine ext_bits true (by rw [lJ_length]; rfl) (fun x hx => ?_) (lz_lt _ _) fun i hi => ?_
  · simp only [List.mem_cons, List.not_mem_nil, or_false] at hx
    omega
  · have hi : i < 64 := hi
    unfold lJ
    rw [lz_bit _ _ _ hi]
    unfold sJ
    have hz : ∀ q, q < 8 → (0 : Nat).testBit q = false := by decide
    by_cases h8 : i < 8
    · rw [decide_eq_true (by omega), Bool.true_and]
      unfold jG bt pl
      rw [if_pos h8, show i / 8 = 0 by omega, show i % 8 = i by omega]
      rfl
    · by_cases h16 : i < 16
      · rw [decide_eq_true (by omega), Bool.true_and]
        unfold jG bt pl
        rw [if_neg h8, show i / 8 = 1 by omega, if_pos rfl, show i % 8 = i - 8 by omega]
        show (16 * t.toNat + n.toNat).testBit (7 - (i - 8)) = _
        rw [show 16 * t.toNat + n.toNat = 2 ^ 4 * t.toNat + n.toNat from rfl, Nat.two_pow_add_eq_or_of_lt (show n.toNat < 2 ^ 4 by show _ < 16; omega), Nat.testBit_or, Nat.mul_comm, mul_bit]
        by_cases h12 : i < 12
        · rw [if_pos h12, decide_eq_true (by omega), Bool.true_and, Nat.testBit_lt_two_pow (Nat.lt_of_lt_of_le (show n.toNat < 2 ^ 4 by show _ < 16; omega) (Nat.pow_le_pow_right (by omega) (by omega))), Bool.or_false]
          congr 1
          omega
        · rw [if_neg h12, if_pos h16, decide_eq_false (by omega), Bool.false_and, Bool.false_or]
          congr 1
          omega
      · rw [decide_eq_false (by omega), Bool.false_and]
        unfold bt
        have h0 : ([b.toNat, 16 * t.toNat + n.toNat, 0, 0, 0, 0, 0, 0] : List Nat).getD (i / 8) 0 = 0 := by
          obtain ⟨q, hq⟩ : ∃ q, i / 8 = q + 2 := ⟨i / 8 - 2, by omega⟩
          rw [hq]
          show ([0, 0, 0, 0, 0, 0] : List Nat).getD q 0 = 0
          have : ∀ q, q < 6 → ([0, 0, 0, 0, 0, 0] : List Nat).getD q 0 = 0 := by decide
          exact this q (by omega)
        rw [h0]
        exact hz _ (pl_lt (by omega) true)
/-! There and back. -/
theorem G_at {xs : List Nat} {p m : Nat} {z : Int} (h0 : 0 ≤ z ∧ z < ((2 ^ m : Nat) : Int)) (h : ∀ k, k < m → z.toNat.testBit k = bt xs true (p + (m - 1 - k))) : G xs p m = z := by
  unfold G
  rw [getN_eq (N := z.toNat) (by omega) h]
  omega
theorem back_B (b t n : Int) (W : List Int) (hb : 0 ≤ b ∧ b < 256) : G (jB b t n W) 0 8 = b := G_at hb fun k hk => by
  rw [jB_bit _ _ _ _ _ (by omega)]
  unfold jG
  rw [if_pos (by omega)]
  congr 1
  omega
theorem back_T (b t n : Int) (W : List Int) (ht : 0 ≤ t ∧ t < 16) : G (jB b t n W) 8 4 = t := G_at ht fun k hk => by
  rw [jB_bit _ _ _ _ _ (by omega)]
  unfold jG
  rw [if_neg (by omega), if_pos (by omega)]
  congr 1
  omega
theorem back_N (b t n : Int) (W : List Int) (h : 0 ≤ n ∧ n < 16) : G (jB b t n W) 12 4 = n := G_at h fun k hk => by
  rw [jB_bit _ _ _ _ _ (by omega)]
  unfold jG
  rw [if_neg (by omega), if_neg (by omega), if_pos (by omega)]
  congr 1
  omega
theorem back_W (b t n : Int) (W : List Int) (hl : W.length = 16) (h : okW W 3) : whE (jB b t n W) = W :=
  list_ext (n := 16) (whE_length _) hl fun i hi => by
    have hp := pos_lt hi
    rw [whE_get _ _ hi]
    refine G_at (h i hi) fun k hk => ?_
    rw [jB_bit _ _ _ _ _ (by omega)]
    unfold jG pkE
    rw [if_neg (by omega), if_neg (by omega), if_neg (by omega), show (16 + 3 * pos i + (3 - 1 - k) - 16) / 3 = pos i by omega, show (16 + 3 * pos i + (3 - 1 - k) - 16) % 3 = 2 - k by omega, show 2 - (2 - k) = k by omega, pos_pos hi]
theorem G_bit (xs : List Nat) (p m k : Nat) (hk : k < m) : (G xs p m).toNat.testBit (m - 1 - k) = bt xs true (p + k) := by
  unfold G
  rw [Int.toNat_natCast, getN_bit, decide_eq_true (by omega), Bool.true_and]
  congr 1
  omega
theorem forth (xs : List Nat) (hl : xs.length = 8) (hx : ∀ x ∈ xs, x < 256) : jB (G xs 0 8) (G xs 8 4) (G xs 12 4) (whE xs) = xs := by
  refine ext_bits true (by rw [jB_length, hl]) (jB_lt _ _ _ _) hx fun i hi => ?_
  rw [jB_length] at hi
  rw [jB_bit _ _ _ _ _ (by omega)]
  unfold jG
  split
  · have e := G_bit xs 0 8 i (by omega)
    rw [show 8 - 1 - i = 7 - i by omega, Nat.zero_add] at e
    exact e
  · split
    · have e := G_bit xs 8 4 (i - 8) (by omega)
      rw [show 4 - 1 - (i - 8) = 11 - i by omega, show 8 + (i - 8) = i by omega] at e
      exact e
    · split
      · have e := G_bit xs 12 4 (i - 12) (by omega)
        rw [show 4 - 1 - (i - 12) = 15 - i by omega, show 12 + (i - 12) = i by omega] at e
        exact e
      · unfold pkE
        have hq := pos_lt (show (i - 16) / 3 < 16 by omega)
        rw [whE_get _ _ hq, pos_pos (by omega)]
        have e := G_bit xs (16 + 3 * ((i - 16) / 3)) 3 ((i - 16) % 3) (by omega)
        rw [show 3 - 1 - (i - 16) % 3 = 2 - (i - 16) % 3 by omega, show 16 + 3 * ((i - 16) / 3) + (i - 16) % 3 = i by omega] at e
        exact e
theorem whE_ok (xs : List Nat) : okW (whE xs) 3 := fun i hi => whE_bd xs i hi
end Ea
end Go.Proofs.YtpdpjljfloanfaaDoor
