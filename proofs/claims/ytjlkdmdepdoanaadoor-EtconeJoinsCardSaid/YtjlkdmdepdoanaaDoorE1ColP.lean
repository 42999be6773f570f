/- The colours of a block of two halves, and its texels, as plain functions; columns as rows; no program. -/
import Derived.Test.YtjlkdmdepdoanaaDoorE1JoinP
set_option linter.all false
namespace Go.Proofs.YtjlkdmdepdoanaaDoor
open Bi Lv
namespace Eo

/-! Tables and halves. -/
def numL : List Int := [2, 8, 5, 17, 9, 29, 13, 42, 18, 60, 24, 80, 33, 106, 47, 183]
def tab4 (k : Nat) : List Int := [numL.getD (2 * k) 0, numL.getD (2 * k + 1) 0, -numL.getD (2 * k) 0, -numL.getD (2 * k + 1) 0]
def tabV (n : Int) : List Int := tab4 (n % 8).toNat
theorem tabV_length (n : Int) : (tabV n).length = 4 := rfl
theorem tab4_bd : ∀ k, k < 8 → ∀ i, i < 4 → -183 ≤ (tab4 k).getD i 0 ∧ (tab4 k).getD i 0 ≤ 183 := by decide
theorem tabV_bd (n : Int) (i : Nat) : -183 ≤ (tabV n).getD i 0 ∧ (tabV n).getD i 0 ≤ 183 := by
  rcases Nat.lt_or_ge i 4 with h | h
  · exact tab4_bd _ (by omega) i h
  · rw [List.getD_eq_getElem?_getD, List.getElem?_eq_none (by rw [tabV_length]; exact h)]; decide
theorem tabV_id {n : Int} (h : 0 ≤ n ∧ n < 8) : tabV n = tab4 n.toNat := by unfold tabV; rw [Int.emod_eq_of_lt h.1 h.2]
def halfV (f : Bool) (t : Int) : Int := if f = true then t % 16 / 8 else t % 16 % 4 / 2
def halfN (f : Bool) (i : Nat) : Nat := if f = true then i / 8 else i % 4 / 2
theorem halfN_lt (f : Bool) {i : Nat} (h : i < 16) : halfN f i < 2 := by unfold halfN; split <;> omega
theorem halfV_nat (f : Bool) {i : Nat} (h : i < 16) : halfV f (i : Int) = ((halfN f i : Nat) : Int) := by
  unfold halfV halfN; split <;> omega
theorem halfN_pos (f : Bool) {i : Nat} (h : i < 16) : halfN (!f) (pos i) = halfN f i := by
  have k : ∀ f : Bool, ∀ i, i < 16 → halfN (!f) (pos i) = halfN f i := by decide
  exact k f i h

/-! The two colours. -/
def seV (d : Bool) (Z : List Int) (c : Nat) : Int := if d = true then Z.getD (3 + c) 0 + Z.getD c 0 else Z.getD (3 + c) 0
def baE (d : Bool) (Z : List Int) (j : Nat) : Int := if j % 4 = 3 then 255 else if j < 4 then wideV (Z.getD j 0) (w1 d : Int) else wideV (seV d Z (j - 4)) (w1 d : Int)
def bS (d : Bool) (Z : List Int) (S : Nat → Bool) : List Int := (List.range 8).map fun j => if j % 4 = 3 then 255 else if S (j % 4) then baE d Z j else 0
def baV (d : Bool) (Z : List Int) : List Int := (List.range 8).map (baE d Z)
theorem bS_length (d : Bool) (Z : List Int) (S : Nat → Bool) : (bS d Z S).length = 8 := by simp [bS]
theorem baV_length (d : Bool) (Z : List Int) : (baV d Z).length = 8 := by simp [baV]
theorem bS_getD (d : Bool) (Z : List Int) (S : Nat → Bool) (j : Nat) (h : j < 8) : (bS d Z S).getD j 0 = if j % 4 = 3 then 255 else if S (j % 4) then baE d Z j else 0 := by simp [bS, h]
theorem baV_getD (d : Bool) (Z : List Int) (j : Nat) (h : j < 8) : (baV d Z).getD j 0 = baE d Z j := by simp [baV, h]
theorem baE_bd (d : Bool) (Z : List Int) (j : Nat) : 0 ≤ baE d Z j ∧ baE d Z j ≤ 255 := by
  have h1 := wideV_bd (Z.getD j 0) (w1 d : Int)
  have h2 := wideV_bd (seV d Z (j - 4)) (w1 d : Int)
  unfold baE
  split
  · omega
  · split <;> omega
theorem baV_bd (d : Bool) (Z : List Int) (j : Nat) : 0 ≤ (baV d Z).getD j 0 ∧ (baV d Z).getD j 0 ≤ 255 := by
  rcases Nat.lt_or_ge j 8 with h | h
  · rw [baV_getD _ _ _ h]; exact baE_bd d Z j
  · rw [List.getD_eq_getElem?_getD, List.getElem?_eq_none (by rw [baV_length]; exact h)]; decide
theorem bS_none (d : Bool) (Z : List Int) (S : Nat → Bool) (h : ∀ j, j < 3 → S j = false) : bS d Z S = [0, 0, 0, 255, 0, 0, 0, 255] := by
  refine getD_ext (by rw [bS_length]; rfl) fun j hj => ?_
  rw [bS_length] at hj
  rw [bS_getD _ _ _ _ hj]
  by_cases h3 : j % 4 = 3
  · rw [if_pos h3]
    obtain rfl | rfl : j = 3 ∨ j = 7 := by omega
    all_goals rfl
  · rw [if_neg h3, h _ (by omega), if_neg (by simp)]
    obtain rfl | rfl | rfl | rfl | rfl | rfl : j = 0 ∨ j = 1 ∨ j = 2 ∨ j = 4 ∨ j = 5 ∨ j = 6 := by omega
    all_goals rfl
theorem bS_full (d : Bool) (Z : List Int) (S : Nat → Bool) (h : ∀ j, j < 3 → S j = true) : bS d Z S = baV d Z := by
  refine getD_ext (by rw [bS_length, baV_length]) fun j hj => ?_
  rw [bS_length] at hj
  rw [bS_getD _ _ _ _ hj, baV_getD _ _ _ hj]
  by_cases h3 : j % 4 = 3
  · rw [if_pos h3]; unfold baE; rw [if_pos h3]
  · rw [if_neg h3, h _ (by omega), if_pos rfl]
theorem bS_set (d : Bool) (Z : List Int) {S S' : Nat → Bool} {c : Nat} (hc : c < 3) (a b : Int) (ha : a = wideV (Z.getD c 0) (w1 d : Int)) (hb : b = wideV (seV d Z c) (w1 d : Int)) (h : ∀ j, j < 3 → S' j = (S j || decide (j = c))) :
    ((bS d Z S).set c a).set (4 + c) b = bS d Z S' := by
  refine getD_ext (by simp [bS_length]) fun j hj => ?_
  rw [List.length_set, List.length_set, bS_length] at hj
  rw [getD_seti _ _ _ _ (by rw [List.length_set, bS_length]; omega), getD_seti _ _ _ _ (by rw [bS_length]; omega), bS_getD _ _ _ _ hj, bS_getD _ _ _ _ hj]
  by_cases h3 : j % 4 = 3
  · rw [if_pos h3, if_pos h3, if_neg (by omega), if_neg (by omega)]
  · rw [if_neg h3, if_neg h3, h _ (by omega)]
    by_cases h4 : j = 4 + c
    · subst h4
      rw [if_pos rfl]
      simp only [show (4 + c) % 4 = c from by omega, decide_true, Bool.or_true, if_true]
      unfold baE
      rw [if_neg (by omega), if_neg (by omega), show 4 + c - 4 = c by omega]
      exact hb
    · rw [if_neg h4]
      by_cases h5 : j = c
      · subst h5
        rw [if_pos rfl]
        simp only [show j % 4 = j from by omega, decide_true, Bool.or_true, if_true]
        unfold baE
        rw [if_neg (by omega), if_pos (by omega)]
        exact ha
      · rw [if_neg h5]
        have e : decide (j % 4 = c) = false := by simp; omega
        rw [e, Bool.or_false]
def sU (c j : Nat) : Bool := decide (j < c)
def sD (k j : Nat) : Bool := decide (3 ≤ j + k)

/-- Does a difference go too far? -/
def oob (d : Bool) (Z : List Int) (c : Nat) : Bool := d && !decide (0 ≤ seV d Z c ∧ seV d Z c < 32)
def farP (d : Bool) (Z : List Int) : Nat → Nat
  | 0 => 3
  | c + 1 => if farP d Z c = 3 ∧ oob d Z c = true then c else farP d Z c
def badP (d : Bool) (Z : List Int) : Nat → Nat
  | 0 => 3
  | k + 1 => if oob d Z (2 - k) = true then 2 - k else badP d Z k
theorem far_bad (d : Bool) (Z : List Int) : badP d Z 3 = farP d Z 3 := by
  unfold badP badP badP badP farP farP farP farP
  cases oob d Z 0 <;> cases oob d Z 1 <;> cases h : oob d Z 2 <;> simp [h]
theorem farP_le (d : Bool) (Z : List Int) : ∀ c, c ≤ 3 → farP d Z c ≤ 3
  | 0, _ => Nat.le_refl _
  | c + 1, h => by rw [farP]; split; omega; exact farP_le d Z c (by omega)
theorem farP_no (Z : List Int) : ∀ c, farP false Z c = 3
  | 0 => rfl
  | c + 1 => by rw [farP, if_neg (by simp [oob]), farP_no Z c]
theorem badP_no (Z : List Int) : ∀ c, badP false Z c = 3
  | 0 => rfl
  | c + 1 => by rw [badP, if_neg (by simp [oob]), badP_no Z c]

/-! Texels. -/
def addV (t : List Int) (n : Int) : List Int := [clampV (t.getD 0 0 + n) 255, clampV (t.getD 1 0 + n) 255, clampV (t.getD 2 0 + n) 255, t.getD 3 0]
def addP (t : List Int) (n : Int) : Nat → List Int
  | 0 => t
  | c + 1 => (addP t n c).set c (clampV (t.getD c 0 + n) 255)
theorem addP_length (t : List Int) (n : Int) : ∀ c, (addP t n c).length = t.length
  | 0 => rfl
  | c + 1 => by rw [addP, List.length_set, addP_length t n c]
theorem addP_getD (t : List Int) (n : Int) : ∀ c j, c ≤ t.length → (addP t n c).getD j 0 = if j < c then clampV (t.getD j 0 + n) 255 else t.getD j 0
  | 0, j, _ => by simp [addP]
  | c + 1, j, h => by
    rw [addP, getD_seti _ _ _ _ (by rw [addP_length]; omega)]
    by_cases hj : j = c
    · subst hj; rw [if_pos rfl, if_pos (by omega)]
    · rw [if_neg hj, addP_getD t n c j (by omega)]
      by_cases h1 : j < c
      · rw [if_pos h1, if_pos (by omega)]
      · rw [if_neg h1, if_neg (by omega)]
theorem addP_full (t : List Int) (n : Int) (h : t.length = 4) : addP t n 3 = addV t n := by
  refine getD_ext (by rw [addP_length, h]; rfl) fun j hj => ?_
  rw [addP_length, h] at hj
  rw [addP_getD _ _ _ _ (by omega)]
  obtain rfl | rfl | rfl | rfl : j = 0 ∨ j = 1 ∨ j = 2 ∨ j = 3 := by omega
  all_goals rfl
/-- Rows of four numbers, the first k of them laid over z. -/
def fl (z : List Int) (f : Nat → List Int) : Nat → List Int
  | 0 => z
  | k + 1 => spl (fl z f k) (k * 4) (f k)
theorem fl_length (z : List Int) (f : Nat → List Int) : ∀ k, (fl z f k).length = z.length
  | 0 => rfl
  | k + 1 => by rw [fl, spl_length, fl_length z f k]
theorem fl_getD (z : List Int) (f : Nat → List Int) (hf : ∀ i, (f i).length = 4) : ∀ k, k * 4 ≤ z.length → ∀ j, (fl z f k).getD j 0 = if j / 4 < k then (f (j / 4)).getD (j % 4) 0 else z.getD j 0
  | 0, _, j => by simp [fl]
  | k + 1, h, j => by
    rw [fl, spl_getD _ _ _ _ (by rw [fl_length, hf]; omega), hf]
    by_cases h1 : k * 4 ≤ j ∧ j < k * 4 + 4
    · rw [if_pos h1, if_pos (by omega), show j / 4 = k by omega, show j - k * 4 = j % 4 by omega]
    · rw [if_neg h1, fl_getD z f hf k (by omega)]
      by_cases h2 : j / 4 < k
      · rw [if_pos h2, if_pos (by omega)]
      · rw [if_neg h2, if_neg (by omega)]
theorem fl_row (z : List Int) (f : Nat → List Int) (hf : ∀ i, (f i).length = 4) (n : Nat) (hn : n * 4 ≤ z.length) (i : Nat) (hi : i < n) : ((fl z f n).drop (i * 4)).take 4 = f i := by
  refine getD_ext (by rw [List.length_take, List.length_drop, fl_length, hf]; omega) fun j hj => ?_
  have hj4 : j < 4 := by rw [List.length_take] at hj; omega
  have e : (((fl z f n).drop (i * 4)).take 4).getD j 0 = (fl z f n).getD (i * 4 + j) 0 := by
    rw [List.getD_eq_getElem?_getD, List.getElem?_take, if_pos hj4, List.getElem?_drop, ← List.getD_eq_getElem?_getD]
  rw [e, fl_getD z f hf n hn, if_pos (by omega), show (i * 4 + j) / 4 = i by omega, show (i * 4 + j) % 4 = j by omega]
def z64 : List Int := List.replicate 64 0
theorem z64_length : z64.length = 64 := by simp [z64]
def bRow (d : Bool) (Z : List Int) (h : Nat) : List Int := ((baV d Z).drop (h * 4)).take 4
theorem bRow_length (d : Bool) (Z : List Int) (h : Nat) (hh : h < 2) : (bRow d Z h).length = 4 := by
  unfold bRow; rw [List.length_take, List.length_drop, baV_length]; omega
theorem bRow_bd (d : Bool) (Z : List Int) (h : Nat) (j : Nat) : 0 ≤ (bRow d Z h).getD j 0 ∧ (bRow d Z h).getD j 0 ≤ 255 := by
  have hb := baV_bd d Z (h * 4 + j)
  unfold bRow
  rw [List.getD_eq_getElem?_getD, List.getElem?_take]
  split
  · rw [List.getElem?_drop, ← List.getD_eq_getElem?_getD]; exact hb
  · decide
/-- What is added at texel i; its colour; all of them. -/
def numV (f : Bool) (Z : List Int) (i : Nat) : Int := (tabV (Z.getD (6 + halfN f i) 0)).getD (Z.getD (8 + i) 0).toNat 0
def txV (d f : Bool) (Z : List Int) (i : Nat) : List Int := addV (bRow d Z (halfN f i)) (numV f Z i)
theorem txV_length (d f : Bool) (Z : List Int) (i : Nat) : (txV d f Z i).length = 4 := rfl
def paV (d f : Bool) (Z : List Int) : List Int := fl z64 (txV d f Z) 16
theorem paV_length (d f : Bool) (Z : List Int) : (paV d f Z).length = 64 := by rw [paV, fl_length]; exact z64_length
theorem paV_row (d f : Bool) (Z : List Int) (i : Nat) (h : i < 16) : ((paV d f Z).drop (i * 4)).take 4 = txV d f Z i :=
  fl_row _ _ (fun _ => rfl) 16 (by rw [z64_length]; omega) i h

/-! Bytes. -/
def paE (n : Nat) : Int := if n = 8 then 0 else 1
def deV (n : Nat) (xs : List Nat) : List Int := if n = 8 then paV (pD xs) (pF xs) (pZ xs) else z64
def pa1 (n : Nat) (xs : List Nat) : Bool := if n = 8 then pD xs else false
def pa2 (n : Nat) (xs : List Nat) : Bool := if n = 8 then pF xs else false
def pa3 (n : Nat) (xs : List Nat) : List Int := if n = 8 then pZ xs else z24
theorem pa3_length (n : Nat) (xs : List Nat) : (pa3 n xs).length = 24 := by unfold pa3; split; exact pZ_length _; rfl
theorem deV_length (n : Nat) (xs : List Nat) : (deV n xs).length = 64 := by unfold deV; split; exact paV_length _ _ _; exact z64_length

/-! Columns as rows. -/
def trP (Z : List Int) : Nat → List Int
  | 0 => Z
  | m + 1 => (trP Z m).set (8 + m) (Z.getD (8 + pos m) 0)
theorem trP_length (Z : List Int) : ∀ m, (trP Z m).length = Z.length
  | 0 => rfl
  | m + 1 => by rw [trP, List.length_set, trP_length Z m]
theorem trP_getD (Z : List Int) (hZ : Z.length = 24) : ∀ m j, m ≤ 16 → (trP Z m).getD j 0 = if 8 ≤ j ∧ j < 8 + m then Z.getD (8 + pos (j - 8)) 0 else Z.getD j 0
  | 0, j, _ => by rw [if_neg (by omega)]; rfl
  | m + 1, j, h => by
    rw [trP, getD_seti _ _ _ _ (by rw [trP_length]; omega)]
    by_cases hj : j = 8 + m
    · subst hj; rw [if_pos rfl, if_pos (by omega), show 8 + m - 8 = m by omega]
    · rw [if_neg hj, trP_getD Z hZ m j (by omega)]
      by_cases h1 : 8 ≤ j ∧ j < 8 + m
      · rw [if_pos h1, if_pos (by omega)]
      · rw [if_neg h1, if_neg (by omega)]
theorem tr_lowest (Z : List Int) (hZ : Z.length = 24) (j : Nat) (h : j < 8) : (trP Z 16).getD j 0 = Z.getD j 0 := by
  rw [trP_getD Z hZ 16 j (by omega), if_neg (by omega)]
theorem ok_tr {d : Bool} {Z : List Int} (hZ : Z.length = 24) (h : okP d Z) : okP d (trP Z 16) := by
  intro j hj
  rw [trP_getD Z hZ 16 j (by omega)]
  by_cases h8 : 8 ≤ j ∧ j < 8 + 16
  · rw [if_pos h8]
    have := ok_w h (pos_lt (show j - 8 < 16 by omega))
    unfold lo hi
    rw [if_neg (by omega), if_neg (by omega), if_neg (by omega), if_neg (by omega)]
    exact this
  · rw [if_neg h8]
    exact h j hj
theorem tr_base (d : Bool) (Z : List Int) (hZ : Z.length = 24) : baV d (trP Z 16) = baV d Z := by
  unfold baV
  apply List.map_congr_left
  intro j hj
  have hj8 : j < 8 := by simpa using hj
  have hs : ∀ c, c < 3 → seV d (trP Z 16) c = seV d Z c := fun c hc => by
    unfold seV
    rw [tr_lowest Z hZ _ (by omega), tr_lowest Z hZ _ (by omega)]
  unfold baE
  by_cases h3 : j % 4 = 3
  · rw [if_pos h3, if_pos h3]
  · rw [if_neg h3, if_neg h3]
    by_cases h4 : j < 4
    · rw [if_pos h4, if_pos h4, tr_lowest Z hZ _ (by omega)]
    · rw [if_neg h4, if_neg h4, hs _ (by omega)]
theorem tr_texel (d f : Bool) (Z : List Int) (hZ : Z.length = 24) (i : Nat) (hi : i < 16) : txV d (!f) (trP Z 16) (pos i) = txV d f Z i := by
  have hp := pos_lt hi
  have hh := halfN_lt f hi
  unfold txV numV bRow
  rw [halfN_pos f hi, tr_base d Z hZ, tr_lowest Z hZ _ (by omega), trP_getD Z hZ 16 _ (by omega), if_pos (by omega), show 8 + pos i - 8 = pos i by omega, pos_pos hi]
end Eo
end Go.Proofs.YtjlkdmdepdoanaaDoor
