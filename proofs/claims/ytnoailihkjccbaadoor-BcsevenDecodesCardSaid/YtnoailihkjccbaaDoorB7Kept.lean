/- What the texels of a block keep to; a known block moved to the front. -/
import Derived.Test.YtnoailihkjccbaaDoorB7Ends
set_option linter.all false
namespace Go.Proofs.YtnoailihkjccbaaDoor
open Go.RowKit
open Bi Lv Bt B7


theorem Kn.front {w u : World} {R R' : List Res} {F : List (World → Prop)} {r : Res} (E : Kn w R F u) [P : Pull R r R'] : Kn w (r :: R') F u := by
  obtain ⟨R1, R2, rfl, rfl⟩ := P.h
  exact E.perm List.perm_middle
namespace B7
theorem lv_bd (m : Md) (ns : List Int) (x : Int) (c : Nat) : 0 ≤ lv m ns x c ∧ lv m ns x c ≤ 255 := by
  have h := wideV_bd (ns.getD c 0 * 2 ^ ex m + x) ((wd m c : Int) + (ex m : Int))
  unfold lv
  omega
theorem getD4_bd (a b c d : Int) (P : Int → Prop) (ha : P a) (hb : P b) (hc : P c) (hd : P d) (h0 : P 0) (j : Nat) : P (([a, b, c, d] : List Int).getD j 0) := by
  match j with
  | 0 => exact ha
  | 1 => exact hb
  | 2 => exact hc
  | 3 => exact hd
  | j + 4 => simpa using h0
theorem epV_bd (m : Md) (xs : List Nat) (p i j : Nat) : 0 ≤ (epV m xs p i).getD j 0 ∧ (epV m xs p i).getD j 0 ≤ 255 := by
  refine getD4_bd _ _ _ _ (fun z => 0 ≤ z ∧ z ≤ 255) (lv_bd _ _ _ _) (lv_bd _ _ _ _) (lv_bd _ _ _ _) ?_ (by decide) j
  show 0 ≤ (if m.A = 0 then (255 : Int) else _) ∧ (if m.A = 0 then (255 : Int) else _) ≤ 255
  split
  · decide
  · exact lv_bd _ _ _ _
theorem enV_bd (m : Md) (xs : List Nat) (p : Nat) (h3 : m.P ≤ 3) (j : Nat) : 0 ≤ (enV m xs p).getD j 0 ∧ (enV m xs p).getD j 0 ≤ 255 := by
  unfold enV
  rw [fl_getD z24 (epV m xs p) (fun i => rfl) (2 * m.P) (by rw [z24_length]; omega)]
  split
  · exact epV_bd m xs p _ _
  · have : z24.getD j 0 = 0 := by
      unfold z24
      rw [List.getD_eq_getElem?_getD, List.getElem?_replicate]
      split <;> rfl
    rw [this]
    decide
theorem row_bd (e : List Int) (he : ∀ j, 0 ≤ e.getD j 0 ∧ e.getD j 0 ≤ 255) (k j : Nat) : 0 ≤ ((e.drop k).take 4).getD j 0 ∧ ((e.drop k).take 4).getD j 0 ≤ 255 := by
  rw [List.getD_eq_getElem?_getD, List.getElem?_take]
  split
  · rw [List.getElem?_drop, ← List.getD_eq_getElem?_getD]
    exact he _
  · decide
theorem row_sm (e : List Int) (he : ∀ j, 0 ≤ e.getD j 0 ∧ e.getD j 0 ≤ 255) (k j : Nat) : sm (((e.drop k).take 4).getD j 0) := by
  have := row_bd e he k j
  unfold sm
  omega
theorem wtV_bd (xs : List Nat) (p F : Nat) (l : Nat → Bool) (j : Nat) : 0 ≤ (wtV xs p F l).getD j 0 ∧ (wtV xs p F l).getD j 0 ≤ 64 := by
  rcases Nat.lt_or_ge j 16 with h | h
  · have e : (wtV xs p F l).getD j 0 = (wl F).getD (getN xs false (ipos p F l j) (F - b1 (l j))) 0 := by simp [wtV, h]
    rw [e]
    exact wl_bd F _
  · rw [List.getD_eq_getElem?_getD, List.getElem?_eq_none (by rw [wtV_length]; exact h)]
    decide
end B7
end Go.Proofs.YtnoailihkjccbaaDoor
