/- Levels and Side of the reference. -/
import Derived.Test.YtbpdaijmclcbdaaProg
import Derived.Test.YtbpdaijmclcbdaaMpPlain
import Derived.Test.YtbpdaijmclcbdaaRet
import Derived.Lib.Hide
namespace Go.Proofs.Ytbpdaijmclcbdaa
open Go.RowKit
open Im Mp

theorem pow63 : (2 : Int) ^ 64 = 18446744073709551616 := by decide
theorem lv_step {f : Nat} {W H : Int} (h : goes W H) (h1 : 1 ≤ W) (h2 : 1 ≤ H) (h3 : W < 2 ^ (f + 1)) (h4 : H < 2 ^ (f + 1)) : ∃ g, f = g + 1 ∧ lv f W H = lv g (hv W) (hv H) + 1 ∧ hv W < 2 ^ (g + 1) ∧ hv H < 2 ^ (g + 1) := by
  cases f with
  | zero =>
    unfold goes at h
    simp at h3 h4
    omega
  | succ g =>
    refine ⟨g, rfl, by rw [lv, if_pos h], ?_, ?_⟩
    all_goals
      have e1 : (2 : Int) ^ (g + 1 + 1) = 2 * 2 ^ (g + 1) := by rw [Int.pow_succ, Int.mul_comm]
      have e3 : (1 : Int) < 2 ^ (g + 1) := by rw [Int.pow_succ]; have : (0 : Int) < 2 ^ g := Int.pow_pos (by decide); omega
      unfold hv
      split <;> omega

set_option maxHeartbeats 1000000 in
theorem rlevels_any (W H : Int) (w : World) (hW : W ≤ 9223372036854775807) (hH : H ≤ 9223372036854775807) :
    Calls Try.prog 28 #[.int .i64 W, .int .i64 H] w fun e w' => e = .returned (.int .i64 (lvV W H)) ∧ w = w' := by
  by_cases ha : W < 1
  · rw [show lvV W H = 0 from if_pos (.inl ha)]
    go_enter Try.func28, Try.ntmps28
    go_wp2
    go_ret
    exact ⟨rfl, rfl⟩
  · by_cases hb : H < 1
    · rw [show lvV W H = 0 from if_pos (.inr hb)]
      have ha' : 1 ≤ W := by omega
      clear ha
      go_enter Try.func28, Try.ntmps28
      go_wp2
      go_ret
      exact ⟨rfl, rfl⟩
    · rw [show lvV W H = (lv 63 W H : Int) from if_neg (by omega)]
      have ha' : 1 ≤ W := by omega
      have hb' : 1 ≤ H := by omega
      have hlt := Lib.hid (lv_le 63 W H)
      clear ha hb
      obtain ⟨L, hL⟩ : ∃ L, L = lv 63 W H := ⟨_, rfl⟩
      have HL := Lib.hid hL
      rw [← hL] at hlt ⊢
      clear hL
      go_enter Try.func28, Try.ntmps28
      go_wp2
      go_loop [0, 1, 5] (fun a b n => ∃ (X Y : Int) (k f : Nat), a = .int .i64 X ∧ b = .int .i64 Y ∧ n = .int .i64 (k : Int) ∧ 1 ≤ X ∧ 1 ≤ Y ∧ X ≤ 9223372036854775807 ∧ Y ≤ 9223372036854775807 ∧ k + f ≤ 64 ∧ Hid (L + 1 = k + lv f X Y ∧ X < 2 ^ (f + 1) ∧ Y < 2 ^ (f + 1))) (fun a b _ => (intOf a).toNat + (intOf b).toNat)
      case atStart => exact ⟨W, H, 1, 63, rfl, rfl, rfl, ha', hb', hW, hH, by omega, by rw [HL.out]; exact ⟨by omega, by rw [pow63]; omega, by rw [pow63]; omega⟩⟩
      case round =>
        obtain ⟨X, Y, k, f, rfl, rfl, rfl, hX, hY, hX2, hY2, hkf, hI⟩ := hrel
        by_cases hg : goes X Y
        · obtain ⟨g, rfl, h1, h2, h3⟩ := lv_step hg hX hY hI.out.2.1 hI.out.2.2
          have hN := Lib.hid (show L + 1 = (k + 1) + lv g (hv X) (hv Y) ∧ hv X < 2 ^ (g + 1) ∧ hv Y < 2 ^ (g + 1) from ⟨by have := hI.out.1; omega, h2, h3⟩)
          clear h1 h2 h3 hI
          have hm : (hv X).toNat + (hv Y).toNat < X.toNat + Y.toNat := by
            have l1 := hv_le hX
            have l2 := hv_le hY
            have p1 := hv_pos X
            have p2 := hv_pos Y
            rcases hg with h | h
            · have := hv_lt h; omega
            · have := hv_lt h; omega
          have hM := Lib.hid hm
          have hxp := hv_pos X
          have hyp := hv_pos Y
          have hxl := hv_le hX
          have hyl := hv_le hY
          have hgc : 1 < X ∨ (X = 1 ∧ 1 < Y) := by unfold goes at hg; omega
          clear hg hm
          rcases hgc with hgx | ⟨rfl, hgy⟩
          · rw [hv_big hgx] at hN hM
            by_cases hy2 : 1 < Y
            · rw [hv_big hy2] at hN hM
              clear hxp hyp hxl hyl
              go_wp2
              go_round
              case rel => exact ⟨X / 2, Y / 2, k + 1, g, rfl, rfl, by go_num, by omega, by omega, by omega, by omega, by omega, hN⟩
              case measure => have := hM.out; simp [intOf]; omega
            · obtain rfl : Y = 1 := by omega
              rw [hv_one] at hN hM
              clear hxp hyp hxl hyl hy2
              go_wp2
              go_round
              case rel => exact ⟨X / 2, 1, k + 1, g, rfl, rfl, by go_num, by omega, by omega, by omega, by omega, by omega, hN⟩
              case measure => have := hM.out; simp [intOf]; omega
          · rw [hv_big hgy, hv_one] at hN hM
            clear hxp hyp hxl hyl
            go_wp2
            go_round
            case rel => exact ⟨1, Y / 2, k + 1, g, rfl, rfl, by go_num, by omega, by omega, by omega, by omega, by omega, hN⟩
            case measure => have := hM.out; simp [intOf]; omega
        · have hgc : X ≤ 1 ∧ Y ≤ 1 := by unfold goes at hg; omega
          have hfin : L = k := by
            have h := hI.out.1
            have : lv f X Y = 1 := by
              cases f with
              | zero => rfl
              | succ f => rw [lv, if_neg hg]
            omega
          have HF := Lib.hid hfin
          obtain ⟨c1, c2⟩ := hgc
          clear hg hfin hI
          go_wp2
          go_ret
          exact ⟨ret_int (by rw [HF.out]), rfl⟩

set_option maxHeartbeats 1000000 in
theorem rside_any (n l : Int) (w : World) (hn : n ≤ 9223372036854775807) (hl2 : l ≤ 9223372036854775807) :
    Calls Try.prog 30 #[.int .i64 n, .int .i64 l] w fun e w' => e = .returned (.int .i64 (sdV n l)) ∧ w = w' := by
  by_cases ha : n < 1
  · rw [show sdV n l = 0 from if_pos (.inl ha)]
    go_enter Try.func30, Try.ntmps30
    go_wp2
    go_ret
    exact ⟨rfl, rfl⟩
  · by_cases hb : l < 0
    · rw [show sdV n l = 0 from if_pos (.inr hb)]
      have ha' : 1 ≤ n := by omega
      clear ha
      go_enter Try.func30, Try.ntmps30
      go_wp2
      go_ret
      exact ⟨rfl, rfl⟩
    · rw [show sdV n l = hvN l.toNat n from if_neg (by omega)]
      have ha' : 1 ≤ n := by omega
      have hb' : 0 ≤ l := by omega
      clear ha hb
      obtain ⟨D, hD⟩ : ∃ D, D = hvN l.toNat n := ⟨_, rfl⟩
      have HD := Lib.hid hD
      rw [← hD]
      clear hD
      go_enter Try.func30, Try.ntmps30
      go_wp2
      go_loop [0, 5] (fun a i => ∃ (X : Int) (k : Nat), a = .int .i64 X ∧ i = .int .i64 (k : Int) ∧ 1 ≤ X ∧ X ≤ 9223372036854775807 ∧ (k : Int) ≤ l ∧ Hid (hvN (l.toNat - k) X = D)) (fun _ i => l.toNat - (intOf i).toNat)
      case atStart => exact ⟨n, 0, rfl, rfl, ha', hn, by omega, by rw [HD.out, Nat.sub_zero]; exact rfl⟩
      case round =>
        obtain ⟨X, k, rfl, rfl, hX, hX2, hk, hI⟩ := hrel
        by_cases hlt : (k : Int) < l
        · by_cases hg : 1 < X
          · have hN := Lib.hid (show hvN (l.toNat - (k + 1)) (X / 2) = D from by
              have h := hI.out
              rw [show l.toNat - k = (l.toNat - (k + 1)) + 1 from by omega, hvN, hv_big hg] at h
              exact h)
            clear hI
            go_wp2
            go_round
            case rel => exact ⟨X / 2, k + 1, rfl, by go_num, by omega, by omega, by omega, hN⟩
            case measure => simp [intOf]; omega
          · obtain rfl : X = 1 := by omega
            have hN := Lib.hid (show D = 1 from by rw [← hI.out, hvN_one])
            clear hI hg
            go_wp2
            go_ret
            exact ⟨ret_int hN.out.symm, rfl⟩
        · have hN := Lib.hid (show D = X from by
            have h := hI.out
            rw [show l.toNat - k = 0 from by omega] at h
            exact h.symm)
          have hle : l ≤ (k : Int) := by omega
          clear hI hlt
          go_wp2
          go_ret
          exact ⟨ret_int hN.out.symm, rfl⟩
end Go.Proofs.Ytbpdaijmclcbdaa
