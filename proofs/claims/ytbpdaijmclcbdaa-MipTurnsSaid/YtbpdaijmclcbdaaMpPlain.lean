/- Halves of sides and of images: plain numbers and lists. -/
import Derived.Test.YtbpdaijmclcbdaaImPure
namespace Go.Proofs.Ytbpdaijmclcbdaa
namespace Mp
open Im

/-- Half of a side. -/
def hv (x : Int) : Int := if x / 2 < 1 then 1 else x / 2
theorem hv_pos (x : Int) : 1 ≤ hv x := by unfold hv; split <;> omega
theorem hv_le {x : Int} (h : 1 ≤ x) : hv x ≤ x := by unfold hv; split <;> omega
theorem hv_lt {x : Int} (h : 1 < x) : hv x < x := by unfold hv; split <;> omega
theorem hv_one : hv 1 = 1 := by decide
theorem hv_big {x : Int} (h : 1 < x) : hv x = x / 2 := by unfold hv; rw [if_neg (by omega)]

/-- Is the size not yet 1 by 1? -/
def goes (w h : Int) : Prop := 1 < w ∨ 1 < h
instance (w h : Int) : Decidable (goes w h) := inferInstanceAs (Decidable (_ ∨ _))
/-- How many sizes follow, itself counted; so many steps at most are looked at. -/
def lv : Nat → Int → Int → Nat
  | 0, _, _ => 1
  | f + 1, w, h => if goes w h then lv f (hv w) (hv h) + 1 else 1
theorem lv_pos : ∀ f w h, 1 ≤ lv f w h
  | 0, _, _ => Nat.le_refl _
  | f + 1, w, h => by unfold lv; split <;> omega
theorem lv_le : ∀ f w h, lv f w h ≤ f + 1
  | 0, _, _ => Nat.le_refl _
  | f + 1, w, h => by unfold lv; have := lv_le f (hv w) (hv h); split <;> omega
/-- With steps enough it does not hang on how many. -/
theorem lv_enough : ∀ f g w h, 1 ≤ w → 1 ≤ h → w < 2 ^ (f + 1) → h < 2 ^ (f + 1) → w < 2 ^ (g + 1) → h < 2 ^ (g + 1) → lv f w h = lv g w h
  | 0, 0, _, _, _, _, _, _, _, _ => rfl
  | 0, g + 1, w, h, h1, h2, h3, h4, _, _ => by
    unfold lv
    rw [if_neg (by unfold goes; omega)]
  | f + 1, 0, w, h, h1, h2, _, _, h3, h4 => by
    unfold lv
    rw [if_neg (by unfold goes; omega)]
  | f + 1, g + 1, w, h, h1, h2, h3, h4, h5, h6 => by
    unfold lv
    by_cases hg : goes w h
    · rw [if_pos hg, if_pos hg, lv_enough f g (hv w) (hv h) (hv_pos w) (hv_pos h)]
      all_goals
        unfold hv
        have e1 : (2 : Int) ^ (f + 1 + 1) = 2 * 2 ^ (f + 1) := by rw [Int.pow_succ, Int.mul_comm]
        have e2 : (2 : Int) ^ (g + 1 + 1) = 2 * 2 ^ (g + 1) := by rw [Int.pow_succ, Int.mul_comm]
        have e3 : (1 : Int) < 2 ^ (f + 1) := by rw [Int.pow_succ]; have : (0 : Int) < 2 ^ f := Int.pow_pos (by decide); omega
        have e4 : (1 : Int) < 2 ^ (g + 1) := by rw [Int.pow_succ]; have : (0 : Int) < 2 ^ g := Int.pow_pos (by decide); omega
        split <;> omega
    · rw [if_neg hg, if_neg hg]
/-- Halved so many times. -/
def hvN : Nat → Int → Int
  | 0, x => x
  | k + 1, x => hvN k (hv x)
theorem hvN_one : ∀ k, hvN k 1 = 1
  | 0 => rfl
  | k + 1 => by rw [hvN, hv_one, hvN_one k]
theorem hvN_pos : ∀ k x, 1 ≤ x → 1 ≤ hvN k x
  | 0, _, h => h
  | k + 1, x, _ => hvN_pos k (hv x) (hv_pos x)
/-- Levels and sides as asked. -/
def lvV (w h : Int) : Int := if w < 1 ∨ h < 1 then 0 else (lv 63 w h : Int)
def sdV (n l : Int) : Int := if n < 1 ∨ l < 0 then 0 else hvN l.toNat n
theorem sd_one {n : Int} (h : 1 ≤ n) : sdV n 1 = hv n := by unfold sdV; rw [if_neg (by omega)]; rfl

/-- Four channels, halved. -/
def mid (a b c d : Nat) : Nat := (a + b + c + d + 2) / 4
theorem mid_lt {a b c d : Nat} (ha : a < 256) (hb : b < 256) (hc : c < 256) (hd : d < 256) : mid a b c d < 256 := by unfold mid; omega
theorem mid_between (a b c d : Nat) : min (min a b) (min c d) ≤ mid a b c d ∧ mid a b c d ≤ max (max a b) (max c d) := by unfold mid; omega
/-- The channel c of the half's texel at x, y. -/
def hfB (W H : Int) (xs : List Nat) (x y : Int) (c : Nat) : Nat :=
  mid (xs.getD (plc W (2 * x) (2 * y) + c) 0) (xs.getD (plc W (mn (2 * x + 1) (W - 1)) (2 * y) + c) 0) (xs.getD (plc W (2 * x) (mn (2 * y + 1) (H - 1)) + c) 0) (xs.getD (plc W (mn (2 * x + 1) (W - 1)) (mn (2 * y + 1) (H - 1)) + c) 0)
def hfT (W H : Int) (xs : List Nat) (x y : Int) : List Nat := [hfB W H xs x y 0, hfB W H xs x y 1, hfB W H xs x y 2, hfB W H xs x y 3]
/-- The half's bytes: the first k texels of it, a to a row. -/
def hfK (W H : Int) (xs : List Nat) (a : Nat) : Nat → List Nat
  | 0 => []
  | k + 1 => hfK W H xs a k ++ hfT W H xs ((k % a : Nat) : Int) ((k / a : Nat) : Int)
theorem hfK_length (W H : Int) (xs : List Nat) (a : Nat) : ∀ k, (hfK W H xs a k).length = 4 * k
  | 0 => rfl
  | k + 1 => by rw [hfK, List.length_append, hfK_length W H xs a k]; simp [hfT]; omega
theorem getD_byte {xs : List Nat} (h : ∀ x ∈ xs, x < 256) (i : Nat) : xs.getD i 0 < 256 := by
  by_cases hi : i < xs.length
  · have := h (xs[i]) (List.getElem_mem hi)
    simpa [List.getD_eq_getElem?_getD, List.getElem?_eq_getElem hi] using this
  · simp [List.getD_eq_getElem?_getD, List.getElem?_eq_none (Nat.le_of_not_lt hi)]
theorem hfB_lt {xs : List Nat} (h : ∀ x ∈ xs, x < 256) (W H x y : Int) (c : Nat) : hfB W H xs x y c < 256 := mid_lt (getD_byte h _) (getD_byte h _) (getD_byte h _) (getD_byte h _)
theorem hfK_lt {xs : List Nat} (h : ∀ x ∈ xs, x < 256) (W H : Int) (a : Nat) : ∀ k, ∀ z ∈ hfK W H xs a k, z < 256
  | 0 => by simp [hfK]
  | k + 1 => by
    intro z hz
    rw [hfK, List.mem_append] at hz
    rcases hz with hz | hz
    · exact hfK_lt h W H a k z hz
    · simp [hfT] at hz
      rcases hz with rfl | rfl | rfl | rfl <;> exact hfB_lt h _ _ _ _ _
/-- The half of an image's bytes. -/
def hf (W H : Int) (xs : List Nat) : List Nat := hfK W H xs (hv W).toNat ((hv W).toNat * (hv H).toNat)
theorem hf_length (W H : Int) (xs : List Nat) : (hf W H xs).length = 4 * ((hv W).toNat * (hv H).toNat) := hfK_length _ _ _ _ _
theorem hv_sz {W H : Int} (h : szP W H) : szP (hv W) (hv H) := by
  obtain ⟨a, b, c, d⟩ := h
  have h1 := hv_pos W
  have h2 := hv_pos H
  have h3 := hv_le a
  have h4 := hv_le c
  exact ⟨h1, by omega, h2, by omega⟩
theorem hf_right {W H : Int} {n : Nat} (h : rightP W H n) (xs : List Nat) : rightP (hv W) (hv H) (hf W H xs).length := by
  refine ⟨hv_sz h.1, ?_⟩
  rw [hf_length]
  have h1 := hv_pos W
  have h2 := hv_pos H
  obtain ⟨a, ha⟩ : ∃ a : Nat, hv W = a := ⟨(hv W).toNat, by omega⟩
  obtain ⟨b, hb⟩ : ∃ b : Nat, hv H = b := ⟨(hv H).toNat, by omega⟩
  rw [ha, hb]
  simp [Int.mul_assoc]
/-- Where the four lie. -/
theorem four_in {W H : Int} (hs : szP W H) {x y : Int} (hi : insP x y (hv W) (hv H)) : insP (2 * x) (2 * y) W H ∧ insP (mn (2 * x + 1) (W - 1)) (2 * y) W H ∧ insP (2 * x) (mn (2 * y + 1) (H - 1)) W H ∧ insP (mn (2 * x + 1) (W - 1)) (mn (2 * y + 1) (H - 1)) W H := by
  obtain ⟨a, b, c, d⟩ := hs
  obtain ⟨i1, i2, i3, i4⟩ := hi
  have hx : 2 * x < W := by unfold hv at i2; split at i2 <;> omega
  have hy : 2 * y < H := by unfold hv at i4; split at i4 <;> omega
  unfold insP mn
  refine ⟨⟨by omega, by omega, by omega, by omega⟩, ?_, ?_, ?_⟩ <;> split <;> (try split) <;> omega
end Mp
end Go.Proofs.Ytbpdaijmclcbdaa
