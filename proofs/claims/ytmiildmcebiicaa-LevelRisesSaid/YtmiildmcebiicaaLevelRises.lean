/- LevelRises: levels rise with their numbers, from 0 to 255; no level is nearer than what is told to be; no condition. -/
import Derived.Test.YtmiildmcebiicaaRows
import Derived.Test.YtmiildmcebiicaaLvAwake
import Derived.OpenShut
import Derived.ShutString
import Derived.ChangeOld
import Derived.Below
namespace Go.Proofs.Ytmiildmcebiicaa.levelRises
open Go.ChangeShapes Go.WideShapes Go.ChangeAt Go.RowKit
open Lv

theorem wN_mono (b i j : Nat) (hb : 1 ≤ b) (hb8 : b ≤ 8) (h : i < j) (hj : j < 2 ^ b) : wN b i < wN b j := by
  induction j with
  | zero => omega
  | succ j ih =>
    have h1 := wN_rise b j hb hb8 hj
    rcases Nat.lt_or_ge i j with h2 | h2
    · have := ih h2 (by omega); omega
    · obtain rfl : i = j := by omega
      exact h1
theorem wideV_nat (b k : Nat) (hb : 1 ≤ b) (hb8 : b ≤ 8) (hk : k < 2 ^ b) : wideV (k : Int) (b : Int) = (wN b k : Int) := by
  rw [wideV, if_pos (by omega)]
  have : (k : Int) % 2 ^ b = k := Int.emod_eq_of_lt (by omega) (by
    have := Int.ofNat_lt.2 hk
    simpa using this)
  simp [this]
theorem wideV_more (b k : Nat) (hb : 1 ≤ b) (hb8 : b ≤ 8) : wideV ((k : Int) + ((2 ^ b : Nat) : Int)) (b : Int) = wideV (k : Int) (b : Int) := by
  unfold wideV
  have : ((k : Int) + ((2 ^ b : Nat) : Int)) % 2 ^ b = (k : Int) % 2 ^ b := by
    rw [show ((2 ^ b : Nat) : Int) = (2 : Int) ^ b from by simp, Int.add_emod_right]
  simp only [Int.toNat_natCast, this]
theorem sq_zero (z : Int) (h : z * z ≤ 0) : z = 0 := by
  rcases Int.lt_trichotomy z 0 with h1 | h1 | h1
  · have := Int.mul_pos_of_neg_of_neg h1 h1; omega
  · exact h1
  · have := Int.mul_pos h1 h1; omega
theorem near_wide (b k : Nat) (hb : 1 ≤ b) (hb8 : b ≤ 8) (hk : k < 2 ^ b) : nearV (wideV (k : Int) (b : Int)) (b : Int) = k := by
  rw [nearV, if_pos (by omega), Int.toNat_natCast]
  have hp := Nat.two_pow_pos b
  have h1 := argm_lt (nearC (wideV (k : Int) (b : Int)) b) (2 ^ b) hp
  have h2 := (argm_least (nearC (wideV (k : Int) (b : Int)) b) (2 ^ b) k hk).1
  generalize argm (nearC (wideV (k : Int) (b : Int)) b) (2 ^ b) = t at *
  unfold nearC at h2
  rw [Int.sub_self] at h2
  have h3 := sq_zero _ (by simpa using h2)
  rw [wideV_nat b t hb hb8 h1, wideV_nat b k hb hb8 hk] at h3
  rcases Nat.lt_trichotomy t k with h4 | h4 | h4
  · have := wN_mono b t k hb hb8 h4 hk; omega
  · rw [h4]
  · have := wN_mono b k t hb hb8 h4 h1; omega
/-- The level before. -/
def lastV (b k : Nat) : Int := if k = 0 then -1 else (wN b (k - 1) : Int)
theorem lastV_lt (b k : Nat) (hb : 1 ≤ b) (hb8 : b ≤ 8) (hk : k < 2 ^ b) : lastV b k < (wN b k : Int) := by
  unfold lastV
  split
  · omega
  · have := wN_mono b (k - 1) k hb hb8 (by omega) hk
    omega
theorem lastV_bd (b k : Nat) (hb : 1 ≤ b) (hb8 : b ≤ 8) (hk : k ≤ 2 ^ b) : -1 ≤ lastV b k ∧ lastV b k < 256 := by
  unfold lastV
  split
  · omega
  · have := wN_lt b (k - 1) hb hb8 (by omega)
    omega

set_option maxHeartbeats 4000000 in
set_option maxRecDepth 100000 in
theorem walk_out (n bits : Int) (w : World) (h : ¬ (1 ≤ bits ∧ bits ≤ 8 ∧ sm n)) :
    Calls Try.prog 5 #[.int .i64 n, .int .i64 bits] w fun e w' => e = .returned (.bool true) ∧ Below w.heap.size w w' := by
  have v1 := Lib.hid (show wideV 1 9 = 0 from by decide +kernel)
  have v2 := Lib.hid (show nearV 1 0 = 0 from by decide +kernel)
  have hS := Lib.hid (fun w => small_any n w)
  have hN := Lib.hid (fun w => near_any 1 0 w ⟨by omega, by omega⟩)
  rw [v2.out] at hN
  have hd : (1 ≤ bits ∧ bits ≤ 8) → decide (-1048576 ≤ n ∧ n ≤ 1048576) = false := fun hb => by
    rw [decide_eq_false_iff_not]
    exact fun hn => h ⟨hb.1, hb.2, hn⟩
  have HD := Lib.hid hd
  clear h hd
  by_cases h1 : bits < 1
  · go_enter Try.func5, Try.ntmps5
    go_wp2_with (first
      | (go_at_call 7; refine (awake_any _).mono ?_; rintro e w1 ⟨rfl, hb1⟩; have B1 := Lib.hid hb1; clear hb1)
      | (go_at_call 9; refine (wide_any 1 9 _).mono ?_; rw [v1.out]; rintro e w' ⟨rfl, rfl⟩)
      | (go_at_call 11; refine (hN.out _).mono ?_; rintro e w2 ⟨rfl, hb2⟩; have B2 := Lib.hid (B1.out.trans (hb2.mono B1.out.size)); clear hb2))
    go_ret
    exact ⟨rfl, B2.out⟩
  · by_cases h2 : bits > 8
    · go_enter Try.func5, Try.ntmps5
      go_wp2_with (first
        | (go_at_call 7; refine (awake_any _).mono ?_; rintro e w1 ⟨rfl, hb1⟩; have B1 := Lib.hid hb1; clear hb1)
        | (go_at_call 9; refine (wide_any 1 9 _).mono ?_; rw [v1.out]; rintro e w' ⟨rfl, rfl⟩)
        | (go_at_call 11; refine (hN.out _).mono ?_; rintro e w2 ⟨rfl, hb2⟩; have B2 := Lib.hid (B1.out.trans (hb2.mono B1.out.size)); clear hb2))
      go_ret
      exact ⟨rfl, B2.out⟩
    · have hf := HD.out (by omega)
      rw [hf] at hS
      clear hf HD
      go_enter Try.func5, Try.ntmps5
      go_wp2_with (first
        | (go_at_call 7; refine (awake_any _).mono ?_; rintro e w1 ⟨rfl, hb1⟩; have B1 := Lib.hid hb1; clear hb1)
        | (go_at_call 17; refine (hS.out _).mono ?_; rintro e w' ⟨rfl, rfl⟩)
        | (go_at_call 9; refine (wide_any 1 9 _).mono ?_; rw [v1.out]; rintro e w' ⟨rfl, rfl⟩)
        | (go_at_call 11; refine (hN.out _).mono ?_; rintro e w2 ⟨rfl, hb2⟩; have B2 := Lib.hid (B1.out.trans (hb2.mono B1.out.size)); clear hb2))
      go_ret
      exact ⟨rfl, B2.out⟩

set_option maxHeartbeats 4000000 in
set_option maxRecDepth 100000 in
theorem walk_in (n : Int) (b : Nat) (w : World) (hb : 1 ≤ b) (hb8 : b ≤ 8) (hn : sm n) :
    Calls Try.prog 5 #[.int .i64 n, .int .i64 b] w fun e w' => e = .returned (.bool true) ∧ Below w.heap.size w w' := by
  have hS := Lib.hid (fun w => small_any n w)
  rw [show decide (-1048576 ≤ n ∧ n ≤ 1048576) = true from by rw [decide_eq_true_iff]; exact hn] at hS
  have hN := Lib.hid (fun w => near_any n b w hn)
  have hV := Lib.hid (show nearV n b = (argm (nearC n b) (2 ^ b) : Int) from by rw [nearV, if_pos (by omega)]; simp)
  have hal := argm_lt (nearC n b) (2 ^ b) (Nat.two_pow_pos b)
  have hle := Lib.hid (fun i hi => (argm_least (nearC n b) (2 ^ b) i hi).1)
  have hp8 : 2 ^ b ≤ 2 ^ 8 := Nat.pow_le_pow_right (by omega) hb8
  rw [hV.out] at hN
  clear hV
  generalize argm (nearC n b) (2 ^ b) = t at *
  have hW := Lib.hid (fun w => wide_any (t : Int) b w)
  have hWt := Lib.hid (wideV_nat b t hb hb8 hal)
  have hNW := Lib.hid (near_wide b t hb hb8 hal)
  have hWm := Lib.hid (wideV_more b t hb hb8)
  have hT := wN_lt b t hb hb8 hal
  have HN := Lib.hid hn
  have HAL := Lib.hid hal
  obtain ⟨n0, n1⟩ := hn
  rw [hWt.out] at hW
  have hW2 := Lib.hid (fun w => wide_any ((t : Int) + ((2 ^ b : Nat) : Int)) b w)
  rw [hWm.out, hWt.out] at hW2
  have hN2 := Lib.hid (fun w => near_any (wN b t : Int) b w ⟨by omega, by omega⟩)
  rw [← hWt.out, hNW.out, hWt.out] at hN2
  have hW0 := Lib.hid (fun w => wide_any 0 b w)
  rw [show wideV 0 b = 0 from by have := wideV_nat b 0 hb hb8 (Nat.two_pow_pos b); rw [wN_zero b hb hb8] at this; simpa using this] at hW0
  go_enter Try.func5, Try.ntmps5
  go_wp2_with (first
    | (go_at_call 7; refine (awake_any _).mono ?_; rintro e w1 ⟨rfl, hb1⟩; have B1 := Lib.hid hb1; clear hb1)
    | (go_at_call 17; refine (hS.out _).mono ?_; rintro e w' ⟨rfl, rfl⟩))
  go_loop [6, 7] (fun t i => ∃ k : Nat, k ≤ b ∧ i = .int .i64 k ∧ t = .int .i64 ((2 ^ k : Nat) : Int)) (fun _ i => b - (intOf i).toNat)
  case atStart => exact ⟨0, Nat.zero_le _, rfl, rfl⟩
  case round =>
    obtain ⟨k, hk, rfl, rfl⟩ := hrel
    have h1 : 2 ^ k ≤ 2 ^ 8 := Nat.pow_le_pow_right (by omega) (by omega)
    obtain ⟨q, hq⟩ : ∃ q, q = 2 ^ k := ⟨_, rfl⟩
    rw [← hq] at h1 ⊢
    have HQ := Lib.hid hq
    clear hq
    by_cases hlt : k < b
    · go_wp2
      go_round
      case rel =>
        refine ⟨k + 1, by omega, by go_num, ?_⟩
        rw [Nat.pow_succ, ← HQ.out]
        go_num
      case measure => simp [intOf]; omega
    · obtain rfl : k = b := by omega
      clear h1 hS
      rw [← HQ.out] at hp8
      rw [← HQ.out] at hW2 hle HAL
      clear hal
      go_wp2_with (first
        | (go_at_call 11; refine (hN.out _).mono ?_; rintro e w2 ⟨rfl, hb2⟩; have B2 := Lib.hid (B1.out.trans (hb2.mono B1.out.size)); clear hb2)
        | (go_at_call 9; refine (hW.out _).mono ?_; rintro e w' ⟨rfl, rfl⟩))
      have hTn := Lib.hid (show ∀ j : Nat, j < q → ((wN k t : Int) - n) * ((wN k t : Int) - n) ≤ ((wN k j : Int) - n) * ((wN k j : Int) - n) from fun j hj => by
        have h := hle.out j hj
        unfold nearC at h
        rwa [hWt.out, wideV_nat k j hb hb8 (by rw [← HQ.out]; exact hj)] at h)
      have hLast := Lib.hid (show lastV k q = 255 from by
        have hp := Nat.two_pow_pos k
        rw [lastV, if_neg (by rw [HQ.out]; omega), HQ.out, wN_last k hb hb8]; rfl)
      clear hle hWt hNW hWm hN
      generalize wN k t = T at *
      have hq2 := sq_bd ((T : Int) - n) (by omega) (by omega)
      obtain ⟨C2, hC2⟩ : ∃ C2, C2 = ((T : Int) - n) * ((T : Int) - n) := ⟨_, rfl⟩
      have hw2 : wrap64 (((T : Int) - n) * ((T : Int) - n)) = C2 := by rw [hC2]; exact wrap64_small _ (by omega) (by omega)
      rw [← hC2] at hTn
      clear hq2 hC2
      go_loop [10, 11, 12] (fun l i _ => ∃ j : Nat, j ≤ q ∧ i = .int .i64 j ∧ l = .int .i64 (lastV k j)) (fun _ i _ => q - (intOf i).toNat)
      case atStart => exact ⟨0, Nat.zero_le _, rfl, rfl⟩
      case round =>
        obtain ⟨j, hj, rfl, rfl⟩ := hrel
        by_cases hjq : j < q
        · have hj2 : j < 2 ^ k := by rw [← HQ.out]; exact hjq
          have hWj := Lib.hid (fun w => wide_any (j : Int) k w)
          rw [wideV_nat k j hb hb8 hj2] at hWj
          have hl1 := lastV_lt k j hb hb8 hj2
          have hl2 := lastV_bd k j hb hb8 (by omega)
          have hl3 := wN_lt k j hb hb8 hj2
          have hl4 := Lib.hid (show lastV k (j + 1) = (wN k j : Int) from by rw [lastV, if_neg (by omega)]; rfl)
          have hc := hTn.out j hjq
          clear hj2
          generalize lastV k j = L at *
          generalize wN k j = V at *
          have hq1 := sq_bd ((V : Int) - n) (by omega) (by omega)
          obtain ⟨C1, hC1⟩ : ∃ C1, C1 = ((V : Int) - n) * ((V : Int) - n) := ⟨_, rfl⟩
          have hw1 : wrap64 (((V : Int) - n) * ((V : Int) - n)) = C1 := by rw [hC1]; exact wrap64_small _ (by omega) (by omega)
          rw [← hC1] at hc
          clear hq1 hC1
          go_wp2_with (go_at_call 9; with_reducible refine (hWj.out _).mono ?_; rintro e w' ⟨rfl, rfl⟩)
          go_round
          case rel => exact ⟨j + 1, by omega, by go_num, by rw [hl4.out]⟩
          case measure => simp [intOf]; omega
        · obtain rfl : j = q := by omega
          rw [hLast.out]
          have hal := HAL.out
          go_wp2_with (first
            | (go_at_call 9; (first | (with_reducible refine (hW0.out _).mono ?_) | (with_reducible refine (hW.out _).mono ?_) | (with_reducible refine (hW2.out _).mono ?_)); rintro e w' ⟨rfl, rfl⟩)
            | (go_at_call 11; refine (hN2.out _).mono ?_; rintro e w3 ⟨rfl, hb3⟩; have B3 := Lib.hid (B2.out.trans (hb3.mono B2.out.size)); clear hb3))
          go_ret
          exact ⟨rfl, B3.out⟩

theorem walk (n bits : Int) (w : World) :
    Calls Try.prog 5 #[.int .i64 n, .int .i64 bits] w fun e w' => e = .returned (.bool true) ∧ Below w.heap.size w w' := by
  by_cases h : 1 ≤ bits ∧ bits ≤ 8 ∧ sm n
  · obtain ⟨b, rfl⟩ := Int.eq_ofNat_of_zero_le (show 0 ≤ bits by omega)
    exact walk_in n b w (by omega) (by omega) h.2.2
  · exact walk_out n bits w h


theorem own : ownKnob Try.prog.godebug = none := by kernel_rfl
theorem laidOut : laidOutB Try.prog = true := by kernel_rfl

set_option maxRecDepth 100000 in
theorem lifted (os : Os) (started : os.Started) (H : Type) (enc : TypeId × Value → H) :
    ReturnsInHanded {} Try.checked os 5 .any (Rows.levelRisesSpec.pre6 enc Try.prog Try.f5 Rows.levelRisesRow.domain false) (Rows.levelRisesSpec.post enc Try.prog Try.f5 false true false false) := by
  refine returnsInHanded_of_change (C := Try.checked) own started (by kernel_rfl) Try.func5
    (ChangeSpec.witness6 (enc := enc) (C := Try.checked) false ⟨#[], #[.int .i64 0, .int .i64 0], []⟩ 8 (by kernel_rfl) (by kernel_rfl) (by kernel_rfl) (by kernel_rfl)) ?_
  intro W base args ds gs before hval0 hW hcnd _
  have hval : ∀ (j : Nat) t v, Try.f5.params[j]? = some t → args[j]? = some v → Value.okWide Try.prog W .any base t v := hval0
  have hW' := hW
  obtain ⟨p, q, hA0, hV, rfl, hfz, hnd⟩ := hW
  have hA : DataW.TrodAll enc Try.prog W 0 (fun _ => true) true Try.f5.params.toList args.toList ds p := hA0
  rw [Try.params5] at hA hval
  obtain ⟨v0, vs0, d0, ds0, p0, q0, hargs, rfl, rfl, h0, r0⟩ := trodAll_cons hA
  obtain ⟨v1, vs1, d1, ds1, p1, q1, rfl, rfl, rfl, h1, r1⟩ := trodAll_cons r0
  obtain ⟨rfl, rfl, rfl⟩ := trodAll_nil r1
  obtain rfl : args = #[v0, v1] := by cases args; simp_all
  obtain ⟨rfl, rfl⟩ := trodVars_none hV
  obtain ⟨a0, rfl, rfl, rfl, w0⟩ := open_int Try.underlying3 (hval 0 3 v0 rfl rfl) h0
  have hm0 := bounds_i64 w0
  obtain ⟨a1, rfl, rfl, rfl, w1⟩ := open_int Try.underlying3 (hval 1 3 v1 rfl rfl) h1
  have hm1 := bounds_i64 w1
  clear hA0 hval0
  refine (walk a0 a1 W).mono fun e W' ⟨he, bel⟩ => ?_
  subst he
  exact ⟨_, rfl, _, _, _, [], _, [], hW', trodAll_mk1 (shut_bool Try.underlying4 _), (trodAll_cons_mk (shut_int Try.underlying3 w0) (trodAll_cons_mk (shut_int Try.underlying3 w1) trodAll_mk0)), rfl, bel.frame _, fun h => by cases h⟩

theorem over : Rows.levelRisesRow.holds Try.pinned (OpenSpec.ofChange Rows.levelRisesSpec) :=
  OpenClaim.holds_of_wide 5 Try.f5 rfl rfl rfl rfl rfl rfl rfl ⟨rfl, rfl, rfl, rfl, rfl⟩ rfl rfl rfl rfl rfl (by kernel_rfl) Try.func5 (by kernel_rfl)
    (of_decide_eq_true (by kernel_rfl)) (by unfold Func.isWrapper; first | (rw [if_pos (by decide +kernel)]; kernel_rfl) | (rw [if_neg (by decide +kernel)]; exact ⟨rfl, rfl⟩))
    (fun os started H enc _ => lifted os started H enc)
end Go.Proofs.Ytmiildmcebiicaa.levelRises

namespace Go.Proofs.Ytmiildmcebiicaa
theorem levelRises_holds : Rows.LevelRisesSaid := levelRises.over
#print axioms levelRises_holds
end Go.Proofs.Ytmiildmcebiicaa
