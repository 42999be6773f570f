/- Planar blocks: the texels of a plane's first texel, and of a plane of one colour; no program. -/
import Derived.Test.YtgcijioiicmjiaaDoorE2Awake
import Derived.Test.YtgcijioiicmjiaaDoorE2Rsm
set_option linter.all false
namespace Go.Proofs.YtgcijioiicmjiaaDoor
open Bi Lv
namespace Et
open Eo
theorem list9 (l : List Int) (h : l.length = 9) : ∃ a b c d e f g i j, l = [a, b, c, d, e, f, g, i, j] := by
  match l, h with
  | [a, b, c, d, e, f, g, i, j], _ => exact ⟨a, b, c, d, e, f, g, i, j, rfl⟩
theorem plE_first (o h v : List Int) (c : Nat) (hb : 0 ≤ o.getD c 0 ∧ o.getD c 0 ≤ 255) : plE o h v 0 c = o.getD c 0 := by
  unfold plE
  rw [show ((0 % 4 : Nat) : Int) * (h.getD c 0 - o.getD c 0) = 0 from Int.zero_mul _, show ((0 / 4 : Nat) : Int) * (v.getD c 0 - o.getD c 0) = 0 from Int.zero_mul _]
  unfold clampV
  omega
theorem pl_first (r g b : Int) (h v : List Int) : ((plV (colP r g b) h v).drop 0).take 4 = colP r g b := by
  have e := plV_row (colP r g b) h v 0 (by omega)
  rw [Nat.zero_mul] at e
  rw [e]
  unfold plR
  rw [plE_first _ _ _ _ (colP_bd r g b 0), plE_first _ _ _ _ (colP_bd r g b 1), plE_first _ _ _ _ (colP_bd r g b 2)]
  rfl
theorem pl_flat (r g b : Int) (i : Nat) (hi : i < 16) : ((plV (colP r g b) (colP r g b) (colP r g b)).drop (i * 4)).take 4 = colP r g b := by
  rw [plV_row _ _ _ _ hi]
  unfold plR
  rw [plE_flat _ _ _ (colP_bd r g b 0), plE_flat _ _ _ (colP_bd r g b 1), plE_flat _ _ _ (colP_bd r g b 2)]
  rfl
theorem lB_dec (zs : List Int) (h : okZ zs) (p : Bool) : deR p (lB (lL zs)) = plV (colP (lL zs 0) (lL zs 1) (lL zs 2)) (colP (lL zs 3) (lL zs 4) (lL zs 5)) (colP (lL zs 6) (lL zs 7) (lL zs 8)) := by
  rw [deR_d2V _ _ (lB_length _)]
  exact lB_texels (lL zs) (okL_of zs h) p
theorem okZ_one (a0 a1 a2 b0 b1 b2 c0 c1 c2 : Int) (h : okZ [a0, a1, a2, b0, b1, b2, c0, c1, c2]) : okZ [a0, a1, a2, a0, a1, a2, a0, a1, a2] := fun i hi c hc => by
  have e := h 0 (by omega) c hc
  have hw : ∀ i, i < 3 → ∀ c, c < 3 → wdN (plM i c) 3 = wdN (plM 0 c) 3 := by decide
  unfold okC at e ⊢
  rw [hw i hi c hc]
  have k : ([a0, a1, a2, a0, a1, a2, a0, a1, a2] : List Int).getD (i * 3 + c) 0 = ([a0, a1, a2, b0, b1, b2, c0, c1, c2] : List Int).getD (0 * 3 + c) 0 := by
    obtain rfl | rfl | rfl : i = 0 ∨ i = 1 ∨ i = 2 := by omega
    all_goals (obtain rfl | rfl | rfl : c = 0 ∨ c = 1 ∨ c = 2 := by omega)
    all_goals rfl
  rw [k]
  exact e
end Et
end Go.Proofs.YtgcijioiicmjiaaDoor
