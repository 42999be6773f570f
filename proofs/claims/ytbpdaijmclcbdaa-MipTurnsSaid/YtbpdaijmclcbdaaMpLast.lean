/- The last image of a chain of an image of one colour. -/
import Derived.Test.YtbpdaijmclcbdaaMpOne
namespace Go.Proofs.Ytbpdaijmclcbdaa
open Go.RowKit
open Im Mp

theorem OneC.at_ {W H : Int} {xs : List Nat} {f : Nat → Nat} (h : OneC W H xs f) (hr : rightP W H xs.length) : atP W H xs 0 0 ∧ atV W H xs 0 0 = [(f 0 : Int), (f 1 : Int), (f 2 : Int), (f 3 : Int)] := by
  have hs := hr.1
  unfold szP at hs
  have hi : insP 0 0 W H := ⟨by omega, by omega, by omega, by omega⟩
  have hp : atP W H xs 0 0 := ⟨hr, hi⟩
  refine ⟨hp, ?_⟩
  rw [show atV W H xs 0 0 = tex xs (plc W 0 0) from if_pos hp, tex_eq]
  have h0 := h 0 0 hi 0 (by omega)
  rw [Nat.add_zero] at h0
  rw [h0, h 0 0 hi 1 (by omega), h 0 0 hi 2 (by omega), h 0 0 hi 3 (by omega)]
theorem last_one (d a : Nat) (ys : List Nat) (t : List Int) (hr : rightP (d : Int) (a : Int) ys.length) (hD : Done t (a * d) ys) :
    ∃ (l : List (Int × Int × List Nat)) (m : Nat) (zs : List Nat) (T : List Int), chR (d : Int) (a : Int) ys (lvV (d : Int) (a : Int)) = l ∧ l.length = m + 1 ∧ m ≤ 63 ∧ l[m]? = some (1, 1, zs) ∧ noE (atP 1 1 zs 0 0) = 0 ∧ noE (atP (d : Int) (a : Int) ys 0 0) = 0 ∧ atV 1 1 zs 0 0 = T ∧ atV (d : Int) (a : Int) ys 0 0 = T ∧ T.length = 4 ∧ noE (chP (d : Int) (a : Int) ys.length (lvV (d : Int) (a : Int))) = 0 := by
  have hs := hr.1
  unfold szP at hs
  have hO := hD.one
  have e1 : lvV (d : Int) (a : Int) = (lv 63 (d : Int) (a : Int) : Int) := if_neg (by omega)
  have hp := lv_pos 63 (d : Int) (a : Int)
  have hle := lv_le 63 (d : Int) (a : Int)
  have hc : chP (d : Int) (a : Int) ys.length (lvV (d : Int) (a : Int)) := ⟨hr, by omega, by omega⟩
  obtain ⟨m, hm⟩ : ∃ m, lv 63 (d : Int) (a : Int) = m + 1 := ⟨lv 63 (d : Int) (a : Int) - 1, by omega⟩
  have hl := lv_last 63 (d : Int) (a : Int) (by omega) (by omega) (by omega) (by omega)
  rw [hm, Nat.add_sub_cancel] at hl
  have hz := chA_size (d : Int) (a : Int) ys m
  rw [hl.1, hl.2] at hz
  have hOm := hO.chain hr m
  have hrm := chA_right hr m
  obtain ⟨z1, z2⟩ := hz
  rw [z1, z2] at hOm hrm
  obtain ⟨p1, v1⟩ := OneC.at_ hOm hrm
  obtain ⟨p2, v2⟩ := OneC.at_ hO hr
  refine ⟨_, m, (chA (d : Int) (a : Int) ys m).2.2, _, rfl, ?_, by omega, ?_, if_pos p1, if_pos p2, v1, v2, rfl, if_pos hc⟩
  · rw [show chR (d : Int) (a : Int) ys (lvV (d : Int) (a : Int)) = _ from if_pos hc, chL_length, e1, hm]; rfl
  · rw [show chR (d : Int) (a : Int) ys (lvV (d : Int) (a : Int)) = _ from if_pos hc, e1, hm]
    show (chL (d : Int) (a : Int) ys (m + 1))[m]? = _
    simp only [chL, List.getElem?_map, List.getElem?_range (Nat.lt_succ_self m), Option.map_some]
    exact congrArg some (Prod.ext z1 (Prod.ext z2 rfl))
end Go.Proofs.Ytbpdaijmclcbdaa
