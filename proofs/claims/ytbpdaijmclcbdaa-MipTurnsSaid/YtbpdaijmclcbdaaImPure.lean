/- What a laid tile, a gathered one, and the image of all tiles read as: plain lists. -/
import Derived.Test.YtbpdaijmclcbdaaImPlain
namespace Go.Proofs.Ytbpdaijmclcbdaa
namespace Im

theorem getD_set' (xs : List Nat) (a b i : Nat) (ha : a < xs.length) : (xs.set a b).getD i 0 = if i = a then b else xs.getD i 0 := by
  simp only [List.getD_eq_getElem?_getD, List.getElem?_set]
  by_cases h : a = i
  · subst h; simp [ha]
  · rw [if_neg h, if_neg (fun e => h e.symm)]

theorem putK_getD (xs : List Nat) (p : Nat) (t : List Int) (h : p + 4 ≤ xs.length) : ∀ k, k ≤ 4 → ∀ j, (putK xs p t k).getD j 0 = if p ≤ j ∧ j < p + k then cl (t.getD (j - p) 0) else xs.getD j 0 := by
  intro k
  induction k with
  | zero => intro _ j; rw [if_neg (by omega)]; rfl
  | succ k ih =>
    intro hk j
    rw [putK, getD_set' _ _ _ _ (by rw [putK_length]; omega), ih (by omega)]
    by_cases e : j = p + k
    · subst e
      rw [if_pos rfl, if_pos (by omega), show p + k - p = k from by omega]
    · rw [if_neg e]
      by_cases e2 : p ≤ j ∧ j < p + k
      · rw [if_pos e2, if_pos (by omega)]
      · rw [if_neg e2, if_neg (by omega)]
theorem put_getD (xs : List Nat) (p : Nat) (t : List Int) (h : p + 4 ≤ xs.length) (j : Nat) : (put xs p t).getD j 0 = if p ≤ j ∧ j < p + 4 then cl (t.getD (j - p) 0) else xs.getD j 0 := putK_getD xs p t h 4 (by omega) j

/-- A texel's bytes are its own. -/
theorem plc_inj {W X Y X' Y' : Int} {c : Nat} (h1 : 0 ≤ X ∧ X < W) (h2 : 0 ≤ X' ∧ X' < W) (h3 : 0 ≤ Y) (h4 : 0 ≤ Y') (hc : c < 4) (h : plc W X' Y' ≤ plc W X Y + c ∧ plc W X Y + c < plc W X' Y' + 4) : X = X' ∧ Y = Y' := by
  have a1 : 0 ≤ Y * W := Int.mul_nonneg h3 (by omega)
  have a2 : 0 ≤ Y' * W := Int.mul_nonneg h4 (by omega)
  have e : Y * W + X = Y' * W + X' := by unfold plc at h; omega
  have t1 : ∀ a b : Int, 0 ≤ b → a < b → a * W + W ≤ b * W := by
    intro a b _ hab
    have : (a + 1) * W ≤ b * W := Int.mul_le_mul_of_nonneg_right (by omega) (by omega)
    rw [Int.add_mul, Int.one_mul] at this
    exact this
  have hy : Y = Y' := by
    rcases Int.lt_trichotomy Y Y' with h' | h' | h'
    · have := t1 Y Y' h4 h'; omega
    · exact h'
    · have := t1 Y' Y h3 h'; omega
  subst hy
  exact ⟨by omega, rfl⟩

theorem tx_getD (t : List Int) (k c : Nat) (hc : c < 4) : (tx t k).getD c 0 = t.getD (k * 4 + c) 0 := by
  simp [tx, List.getElem?_take, hc]

/-- A byte of an image after a tile was laid. -/
theorem layK_getD {W H x y : Int} {n : Nat} (xs : List Nat) (t : List Int) (hh : hasP W H n x y) (hl : xs.length = n) {X Y : Int} (hi : insP X Y W H) {c : Nat} (hc : c < 4) : ∀ k, k ≤ 16 →
    (layK W H xs x y t k).getD (plc W X Y + c) 0 = if X / 4 = x ∧ Y / 4 = y ∧ Y % 4 * 4 + X % 4 < (k : Int) then cl (t.getD ((Y % 4 * 4 + X % 4).toNat * 4 + c) 0) else xs.getD (plc W X Y + c) 0 := by
  intro k
  obtain ⟨b1, b2, b3, b4, b5, b6⟩ := tl_in hh
  obtain ⟨i1, i2, i3, i4⟩ := hi
  induction k with
  | zero => intro _; rw [if_neg (by omega)]; rfl
  | succ k ih =>
    intro hk
    have ih := ih (by omega)
    rw [layK]
    by_cases hcd : x * 4 + (k : Int) % 4 < W ∧ y * 4 + (k : Int) / 4 < H
    · rw [if_pos hcd]
      have hp := plc_ok hh.1 (show insP (x * 4 + (k : Int) % 4) (y * 4 + (k : Int) / 4) W H from ⟨by omega, hcd.1, by omega, hcd.2⟩)
      rw [put_getD _ _ _ (by rw [layK_length, hl]; exact hp.2.1)]
      by_cases e : X = x * 4 + (k : Int) % 4 ∧ Y = y * 4 + (k : Int) / 4
      · obtain ⟨rfl, rfl⟩ := e
        rw [if_pos (by omega), if_pos (by omega), show plc W (x * 4 + (k : Int) % 4) (y * 4 + (k : Int) / 4) + c - plc W (x * 4 + (k : Int) % 4) (y * 4 + (k : Int) / 4) = c from by omega, tx_getD _ _ _ hc,
          show ((y * 4 + (k : Int) / 4) % 4 * 4 + (x * 4 + (k : Int) % 4) % 4).toNat = k from by omega]
      · rw [if_neg (fun h => e (plc_inj ⟨i1, i2⟩ ⟨by omega, hcd.1⟩ i3 (by omega) hc h)), ih]
        by_cases e2 : X / 4 = x ∧ Y / 4 = y ∧ Y % 4 * 4 + X % 4 < (k : Int)
        · rw [if_pos e2, if_pos (by omega)]
        · rw [if_neg e2, if_neg (by omega)]
    · rw [if_neg hcd, ih]
      by_cases e2 : X / 4 = x ∧ Y / 4 = y ∧ Y % 4 * 4 + X % 4 < (k : Int)
      · rw [if_pos e2, if_pos (by omega)]
      · rw [if_neg e2, if_neg (by omega)]

/-- A texel clamped. -/
def clT (t : List Int) : List Int := t.map fun z => ((cl z : Nat) : Int)
theorem tex_getD (xs : List Nat) (p c : Nat) (hc : c < 4) : (tex xs p).getD c 0 = ((xs.getD (p + c) 0 : Nat) : Int) := by
  rw [tex_eq]
  have : c = 0 ∨ c = 1 ∨ c = 2 ∨ c = 3 := by omega
  rcases this with rfl | rfl | rfl | rfl <;> simp
theorem ext4 {a b : List Int} (ha : a.length = 4) (hb : b.length = 4) (h : ∀ c, c < 4 → a.getD c 0 = b.getD c 0) : a = b := by
  refine List.ext_getElem (by omega) fun i h1 h2 => ?_
  have := h i (by omega)
  simpa [List.getElem?_eq_getElem h1, List.getElem?_eq_getElem h2] using this
theorem clT_length (t : List Int) : (clT t).length = t.length := by simp [clT]
theorem clT_getD (t : List Int) (c : Nat) (hc : c < t.length) : (clT t).getD c 0 = ((cl (t.getD c 0) : Nat) : Int) := by
  simp [clT, List.getElem?_eq_getElem hc]
theorem lay_tex {W H x y : Int} {n : Nat} (xs : List Nat) (t : List Int) (hh : hasP W H n x y) (hl : xs.length = n) (ht : t.length = 64) {X Y : Int} (hi : insP X Y W H) :
    tex (layK W H xs x y t 16) (plc W X Y) = if X / 4 = x ∧ Y / 4 = y then clT (tx t (Y % 4 * 4 + X % 4).toNat) else tex xs (plc W X Y) := by
  have hi' := hi
  unfold insP at hi'
  have h16 : Y % 4 * 4 + X % 4 < ((16 : Nat) : Int) := by omega
  have hlt : (Y % 4 * 4 + X % 4).toNat < 16 := by omega
  have L := tx_length ht hlt
  have L2 : (if X / 4 = x ∧ Y / 4 = y then clT (tx t (Y % 4 * 4 + X % 4).toNat) else tex xs (plc W X Y)).length = 4 := by
    split
    · rw [clT_length, L]
    · exact tex_length _ _
  apply ext4 (tex_length _ _) L2
  intro c hc
  rw [tex_getD _ _ _ hc, layK_getD xs t hh hl hi hc 16 (by omega)]
  by_cases e : X / 4 = x ∧ Y / 4 = y
  · rw [if_pos e, if_pos ⟨e.1, e.2, h16⟩, clT_getD _ _ (by omega), tx_getD _ _ _ hc]
  · rw [if_neg e, if_neg (fun h => e ⟨h.1, h.2.1⟩), tex_getD _ _ _ hc]

/-- A texel of a gathered tile. -/
theorem gatK_tx (W H : Int) (xs : List Nat) (x y : Int) : ∀ k, k ≤ 16 → ∀ i, i < k → tx (gatK W H xs x y k) i = tex xs (plc W (mn (x * 4 + (i : Int) % 4) (W - 1)) (mn (y * 4 + (i : Int) / 4) (H - 1))) := by
  intro k
  induction k with
  | zero => intro _ i h; omega
  | succ k ih =>
    intro hk i hi
    have L := gatK_length W H xs x y k
    apply ext4 (tx_length (gatK_length W H xs x y (k + 1)) (by omega)) (tex_length _ _)
    intro c hc
    rw [tx_getD _ _ _ hc, gatK, spl_getD _ _ _ _ (by rw [tex_length, L]; omega), tex_length]
    by_cases e : i = k
    · subst e
      rw [if_pos (by omega), show i * 4 + c - i * 4 = c from by omega]
    · rw [if_neg (by omega), ← tx_getD _ _ _ hc, ih (by omega) i (by omega)]
/-- A texel, the first k channels clamped. -/
def clK (V : List Int) : Nat → List Int
  | 0 => V
  | k + 1 => (clK V k).set k ((cl (V.getD k 0) : Nat) : Int)
theorem clK_length (V : List Int) : ∀ k, (clK V k).length = V.length
  | 0 => rfl
  | k + 1 => by rw [clK, List.length_set, clK_length V k]
theorem clK_getD (V : List Int) : ∀ k i, k ≤ i → (clK V k).getD i 0 = V.getD i 0
  | 0, _, _ => rfl
  | k + 1, i, h => by
    rw [clK]
    simp only [List.getD_eq_getElem?_getD, List.getElem?_set]
    rw [if_neg (by omega), ← List.getD_eq_getElem?_getD, clK_getD V k i (by omega), List.getD_eq_getElem?_getD]
theorem clK_all (V : List Int) (h : V.length = 4) : clK V 4 = clT V := by
  match V, h with
  | [a, b, c, d], _ => simp [clK, clT]
end Im
end Go.Proofs.Ytbpdaijmclcbdaa
