/- The alpha of each texel of an ETC2 block; no program. -/
import Derived.Test.YtgcijioiicmjiaaDoorE2Tex
set_option linter.all false
namespace Go.Proofs.YtgcijioiicmjiaaDoor
open Bi Lv
namespace Et
open Eo
theorem part_getD (l : List Int) (k j : Nat) (hj : j < 4) : ((l.drop (k * 4)).take 4).getD j 0 = l.getD (k * 4 + j) 0 := by
  rw [List.getD_eq_getElem?_getD, List.getElem?_take, if_pos hj, List.getElem?_drop, ← List.getD_eq_getElem?_getD]
theorem frV_alpha (k : Nat) (xs : List Nat) (j : Nat) (hj : j < 4) : (frV k xs).getD (j * 4 + 3) 0 = 255 := by
  unfold frV
  obtain rfl | rfl | rfl | rfl : j = 0 ∨ j = 1 ∨ j = 2 ∨ j = 3 := by omega
  all_goals (split <;> rfl)
theorem bRow_alpha (d : Bool) (Z : List Int) (h : Nat) (hh : h < 2) : (bRow d Z h).getD 3 0 = 255 := by
  unfold bRow
  rw [part_getD _ _ _ (by omega), baV_getD _ _ _ (by omega)]
  unfold baE
  rw [if_pos (by omega)]
theorem dtV_alpha (p : Bool) (xs : List Nat) (i : Nat) (hi : i < 16) : (p = true ∧ dtV p xs i = [0, 0, 0, 0]) ∨ (dtV p xs i).getD 3 0 = 255 := by
  unfold dtV
  split
  · rename_i h
    refine .inl ⟨?_, rfl⟩
    have h1 := h.1
    unfold opq at h1
    cases p
    · exact absurd h1 (by simp)
    · rfl
  · split
    · have hb := whW_bd (pxs p xs) i hi
      rw [whW_getD _ _ hi] at hb
      exact .inr (by rw [part_getD _ _ _ (by omega), frV_alpha _ _ _ (by omega)])
    · split
      · exact .inr (bRow_alpha _ _ _ (halfN_lt _ hi))
      · exact .inr (bRow_alpha _ _ _ (halfN_lt _ hi))
theorem d2V_row (p : Bool) (xs : List Nat) (i : Nat) (hi : i < 16) : (p = true ∧ ((d2V 8 p xs).drop (i * 4)).take 4 = [0, 0, 0, 0]) ∨ (d2V 8 p xs).getD (i * 4 + 3) 0 = 255 := by
  unfold d2V
  rw [if_pos rfl]
  split
  · refine .inr ?_
    rw [← part_getD _ _ _ (by omega), plV_row _ _ _ _ hi]
    rfl
  · have hr := fl_at (dtV p xs) (fun k hk => dtV_length p xs k hk) i 
    obtain ⟨h1, h2⟩ | h := dtV_alpha p xs i hi
    · refine .inl ⟨h1, ?_⟩
      refine List.ext_getElem? fun j => ?_
      by_cases hj : j < 4
      · have e := hr j hi hj
        rw [h2, ← part_getD _ _ _ hj] at e
        have l1 : (((fl z64 (dtV p xs) 16).drop (i * 4)).take 4).length = 4 := by rw [List.length_take, List.length_drop, fl_length, z64_length]; omega
        rw [List.getD_eq_getElem?_getD, List.getD_eq_getElem?_getD, List.getElem?_eq_getElem (by omega), List.getElem?_eq_getElem (show j < ([0, 0, 0, 0] : List Int).length from hj)] at e
        rw [List.getElem?_eq_getElem (by omega), List.getElem?_eq_getElem (show j < ([0, 0, 0, 0] : List Int).length from hj)]
        exact congrArg some e
      · rw [List.getElem?_eq_none (by rw [List.length_take]; omega), List.getElem?_eq_none (by simp; omega)]
    · exact .inr (by rw [hr 3 hi (by omega), h])
/-- Without punch-through alpha each texel has alpha 255. -/
theorem deR_alpha (xs : List Nat) (hl : xs.length = 8) (i : Nat) (hi : i < 16) : (deR false xs).getD (i * 4 + 3) 0 = 255 := by
  rw [deR_d2V _ _ hl]
  obtain ⟨h, -⟩ | h := d2V_row false xs i hi
  · exact absurd h (by decide)
  · exact h
end Et
end Go.Proofs.YtgcijioiicmjiaaDoor
