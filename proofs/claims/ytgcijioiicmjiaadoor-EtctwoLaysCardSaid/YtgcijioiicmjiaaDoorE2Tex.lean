/- ETC2 blocks: the program's texels are those of the plain functions; no program. -/
import Derived.Test.YtgcijioiicmjiaaDoorE2Dec
set_option linter.all false
namespace Go.Proofs.YtgcijioiicmjiaaDoor
open Bi Lv Eo
namespace Et

theorem fl_at (f : Nat → List Int) (hf : ∀ i, i < 16 → (f i).length = 4) (i j : Nat) (hi : i < 16) (hj : j < 4) : (fl z64 f 16).getD (i * 4 + j) 0 = (f i).getD j 0 := by
  have key : ∀ k, k ≤ 16 → ∀ q, q < 64 → (fl z64 f k).getD q 0 = if q / 4 < k then (f (q / 4)).getD (q % 4) 0 else z64.getD q 0 := by
    intro k
    induction k with
    | zero => intro _ q _; simp [fl]
    | succ k ih =>
      intro hk q hq
      have hfk := hf k (by omega)
      rw [fl, spl_getD _ _ _ _ (by rw [hfk, fl_length]; show k * 4 + 4 ≤ 64; omega), hfk, ih (by omega) q hq]
      by_cases h1 : k * 4 ≤ q ∧ q < k * 4 + 4
      · rw [if_pos h1, if_pos (by omega), show q / 4 = k by omega, show q - k * 4 = q % 4 by omega]
      · rw [if_neg h1]
        by_cases h2 : q / 4 < k
        · rw [if_pos h2, if_pos (by omega)]
        · rw [if_neg h2, if_neg (by omega)]
  rw [key 16 (by omega) _ (by omega), if_pos (by omega), show (i * 4 + j) / 4 = i by omega, show (i * 4 + j) % 4 = j by omega]
theorem clrP_at (W T : List Int) (hT : T.length = 64) : ∀ k, k ≤ 16 → ∀ q, q < 64 → (clrP W T k).getD q 0 = if q / 4 < k ∧ W.getD (q / 4) 0 = 2 then 0 else T.getD q 0
  | 0, _, q, _ => by rw [if_neg (by omega)]; rfl
  | k + 1, hk, q, hq => by
    have ih := clrP_at W T hT k (by omega) q hq
    rw [clrP]
    by_cases h2 : W.getD k 0 = 2
    · rw [if_pos h2, spl_getD _ _ _ _ (by rw [clrP_length, hT]; show k * 4 + 4 ≤ 64; omega), ih]
      show (if k * 4 ≤ q ∧ q < k * 4 + 4 then _ else _) = _
      by_cases h1 : k * 4 ≤ q ∧ q < k * 4 + 4
      · rw [if_pos h1, if_pos ⟨by omega, by rw [show q / 4 = k by omega]; exact h2⟩]
        obtain hk' | hk' | hk' | hk' : q - k * 4 = 0 ∨ q - k * 4 = 1 ∨ q - k * 4 = 2 ∨ q - k * 4 = 3 := by omega
        all_goals rw [hk']; rfl
      · rw [if_neg h1]
        by_cases h3 : q / 4 < k ∧ W.getD (q / 4) 0 = 2
        · rw [if_pos h3, if_pos ⟨by omega, h3.2⟩]
        · rw [if_neg h3, if_neg (fun h4 => h3 ⟨by omega, h4.2⟩)]
    · rw [if_neg h2, ih]
      by_cases h3 : q / 4 < k ∧ W.getD (q / 4) 0 = 2
      · rw [if_pos h3, if_pos ⟨by omega, h3.2⟩]
      · rw [if_neg h3, if_neg (fun h4 => by
          by_cases h5 : q / 4 = k
          · exact h2 (h5 ▸ h4.2)
          · exact h3 ⟨by omega, h4.2⟩)]
theorem hvP_at (d f : Bool) (Z W : List Int) : ∀ k, k ≤ 16 → ∀ q, q < 64 → (hvP d f Z W k).getD q 0 = if q / 4 < k ∧ W.getD (q / 4) 0 = 0 then (bRow d Z (halfN f (q / 4))).getD (q % 4) 0 else (paV d f Z).getD q 0
  | 0, _, q, _ => by rw [if_neg (by omega)]; rfl
  | k + 1, hk, q, hq => by
    have ih := hvP_at d f Z W k (by omega) q hq
    have hbl := bRow_length d Z (halfN f k) (halfN_lt f (by omega))
    rw [hvP]
    by_cases h2 : W.getD k 0 = 0
    · rw [if_pos h2, spl_getD _ _ _ _ (by rw [hvP_length, hbl]; omega), hbl, ih]
      by_cases h1 : k * 4 ≤ q ∧ q < k * 4 + 4
      · rw [if_pos h1, if_pos ⟨by omega, by rw [show q / 4 = k by omega]; exact h2⟩, show q / 4 = k by omega, show q - k * 4 = q % 4 by omega]
      · rw [if_neg h1]
        by_cases h3 : q / 4 < k ∧ W.getD (q / 4) 0 = 0
        · rw [if_pos h3, if_pos ⟨by omega, h3.2⟩]
        · rw [if_neg h3, if_neg (fun h4 => h3 ⟨by omega, h4.2⟩)]
    · rw [if_neg h2, ih]
      by_cases h3 : q / 4 < k ∧ W.getD (q / 4) 0 = 0
      · rw [if_pos h3, if_pos ⟨by omega, h3.2⟩]
      · rw [if_neg h3, if_neg (fun h4 => by
          by_cases h5 : q / 4 = k
          · exact h2 (h5 ▸ h4.2)
          · exact h3 ⟨by omega, h4.2⟩)]
theorem choR_length (W C : List Int) (hC : C.length = 16) (i : Nat) (h : 0 ≤ W.getD i 0 ∧ W.getD i 0 < 4) : (choR W C i).length = 4 := by
  unfold choR; rw [List.length_take, List.length_drop, hC]; omega
theorem dtV_length (p : Bool) (xs : List Nat) (i : Nat) (hi : i < 16) : (dtV p xs i).length = 4 := by
  have hw := ok_w (ok_parts (pxs p xs)) hi
  unfold dtV
  split
  · rfl
  · split
    · rw [List.length_take, List.length_drop, frV_length]; omega
    · split
      · exact bRow_length _ _ _ (halfN_lt _ hi)
      · exact txV_length _ _ _ _
theorem opq_opk (p : Bool) (xs : List Nat) (h : kdN p xs ≠ 3) : opk p xs = opq p xs := by unfold opk; rw [decide_eq_false h, Bool.or_false]
/-- The program's texels of a block are the plain ones. -/
theorem deR_d2V (p : Bool) (xs : List Nat) (hl : xs.length = 8) : deR p xs = d2V 8 p xs := by
  unfold d2V
  rw [if_pos rfl]
  by_cases h3 : kdN p xs = 3
  · rw [if_pos h3]
    have ho : opk p xs = true := by unfold opk; rw [decide_eq_true h3, Bool.or_true]
    have e := pxs_pl p xs hl
    unfold deR clrV ptT
    rw [ho, if_pos rfl, h3, if_neg (by omega), if_neg (by omega), if_pos rfl, e.1, e.2.1, e.2.2]
  · rw [if_neg h3]
    refine tile_ext (deR_length p xs) _ (fun i hi => dtV_length p xs i hi) fun i hi j hj => ?_
    have hwg := whW_getD (pxs p xs) i hi
    have hwb := whW_bd (pxs p xs) i hi
    have hT : (ptT (kdN p xs) (opk p xs) (pxs p xs)).getD (i * 4 + j) 0 = if kdN p xs = 1 ∨ kdN p xs = 2 then (((frV (kdN p xs) xs).drop (((pZ (pxs p xs)).getD (8 + i) 0).toNat * 4)).take 4).getD j 0 else if opq p xs = false ∧ (pZ (pxs p xs)).getD (8 + i) 0 = 0 then (bRow (pD (pxs p xs)) (pZ (pxs p xs)) (halfN (pF (pxs p xs)) i)).getD j 0 else (txV (pD (pxs p xs)) (pF (pxs p xs)) (pZ (pxs p xs)) i).getD j 0 := by
      unfold ptT frV
      by_cases h1 : kdN p xs = 1
      · rw [if_pos h1, if_pos (Or.inl h1), if_pos h1, pxs_frT p xs hl]
        unfold choV
        rw [fl_at _ (fun q hq => choR_length _ _ rfl q (whW_bd _ q hq)) i j hi hj, choR, hwg]
      · rw [if_neg h1]
        by_cases h2 : kdN p xs = 2
        · rw [if_pos h2, if_pos (Or.inr h2), if_neg h1, pxs_frH p xs hl]
          unfold choV
          rw [fl_at _ (fun q hq => choR_length _ _ rfl q (whW_bd _ q hq)) i j hi hj, choR, hwg]
        · rw [if_neg h2, if_neg h3, if_neg (by omega), opq_opk p xs h3]
          unfold hvV
          have hpa : (paV (pD (pxs p xs)) (pF (pxs p xs)) (pZ (pxs p xs))).getD (i * 4 + j) 0 = (txV (pD (pxs p xs)) (pF (pxs p xs)) (pZ (pxs p xs)) i).getD j 0 := fl_at _ (fun q _ => txV_length _ _ _ q) i j hi hj
          cases ho : opq p xs
          · show (hvP _ _ _ _ 16).getD _ 0 = _
            rw [hvP_at _ _ _ _ 16 (by omega) _ (by omega), show (i * 4 + j) / 4 = i by omega, show (i * 4 + j) % 4 = j by omega, hwg, hpa]
            by_cases h0 : (pZ (pxs p xs)).getD (8 + i) 0 = 0
            · rw [if_pos ⟨hi, h0⟩, if_pos ⟨rfl, h0⟩]
            · rw [if_neg (fun h => h0 h.2), if_neg (fun h => h0 h.2)]
          · show (paV _ _ _).getD _ 0 = _
            rw [hpa, if_neg (fun h => by cases h.1)]
    unfold deR clrV dtV
    rw [opq_opk p xs h3] at hT ⊢
    generalize opq p xs = q at *
    cases q
    · show (clrP (whW (pxs p xs)) (ptT (kdN p xs) false (pxs p xs)) 16).getD (i * 4 + j) 0 = _
      rw [clrP_at _ _ (ptT_length _ _ _) 16 (by omega) _ (by omega), show (i * 4 + j) / 4 = i by omega, hwg, hT]
      by_cases h2 : (pZ (pxs p xs)).getD (8 + i) 0 = 2
      · rw [if_pos ⟨hi, h2⟩, if_pos ⟨rfl, h2⟩]
        obtain hk' | hk' | hk' | hk' : j = 0 ∨ j = 1 ∨ j = 2 ∨ j = 3 := by omega
        all_goals rw [hk']; rfl
      · simp only [h2, and_false, if_false]
        by_cases hk : kdN p xs = 1 ∨ kdN p xs = 2
        · simp only [if_pos hk]
        · simp only [if_neg hk]
          by_cases h0 : (pZ (pxs p xs)).getD (8 + i) 0 = 0
          · simp only [h0, and_true, if_true]
          · simp only [h0, and_false, if_false]
    · show (ptT (kdN p xs) true (pxs p xs)).getD (i * 4 + j) 0 = _
      rw [hT]
      simp only [Bool.true_eq_false, false_and, if_false]
      by_cases hk : kdN p xs = 1 ∨ kdN p xs = 2
      · simp only [if_pos hk]
      · simp only [if_neg hk]
end Et
end Go.Proofs.YtgcijioiicmjiaaDoor
