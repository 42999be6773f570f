/- BitsBack: what SetLow and SetHigh of package bits stored Low and High return, and all other bits stay; no condition. -/
import Derived.Test.YtbjmmllnhanmpaaRows
import Derived.Test.YtbjmmllnhanmpaaBitAwake
import Derived.Test.YtbjmmllnhanmpaaOpenArr
import Derived.Test.YtbjmmllnhanmpaaOpen
import Derived.OpenShut
import Derived.ShutString
import Derived.ChangeOld
import Derived.Below
namespace Go.Proofs.Ytbjmmllnhanmpaa.bitsBack
open Go.ChangeShapes Go.WideShapes Go.ChangeAt Go.RowKit
open Bi

theorem back_get (xs : List Nat) (hi : Bool) (p m N : Nat) (hp : p + m ≤ 8 * xs.length) (hN : N < 2 ^ m) : getN (st xs hi p m N) hi p m = N := by
  unfold getN
  rw [nm_congr (g := fun k => N.testBit k), nm_self hN]
  intro k hk
  unfold st
  cases hi
  · simp only [Bool.false_eq_true, if_false]
    rw [lay_bit _ _ _ _ _ _ (by omega), if_pos (by omega)]
    congr 1
    omega
  · simp only [if_true]
    rw [lay_bit _ _ _ _ _ _ (by omega), if_pos (by omega)]
    congr 1
    omega

theorem back_other (xs : List Nat) (hi : Bool) (p m N i : Nat) (h : i < 8 * xs.length) (ho : ¬ (p ≤ i ∧ i < p + m)) : getN (st xs hi p m N) hi i 1 = getN xs hi i 1 := by
  unfold getN
  apply nm_congr
  intro k hk
  obtain rfl : k = 0 := by omega
  unfold st
  cases hi
  · simp only [Bool.false_eq_true, if_false]
    rw [lay_bit _ _ _ _ _ _ (by omega), if_neg (by omega)]
  · simp only [if_true]
    rw [lay_bit _ _ _ _ _ _ (by omega), if_neg (by omega)]

set_option maxHeartbeats 4000000 in
set_option maxRecDepth 100000 in
theorem walk (A : Option Addr) (n c : Nat) (xs : List Nat) (x y : Int) (N : Nat) (w : World) (h : Bs w w.heap.size A n xs)
    (x2 : x ≤ 9223372036854775807) (hN : N < 18446744073709551616) :
    Calls Try.prog 4 #[.slice A n c, .agg #[.int .i64 x, .int .i64 y], .int .u64 (N : Int)] w fun e w' => e = .returned (.bool true) ∧ Below w.heap.size w w' := by
  have E0 := Lib.hid (EnvR.start 38 [.int .i64 x, .int .i64 y] h)
  clear h
  go_enter Try.func4, Try.ntmps4
  go_wp2_with fail
  refine (awake_any _).mono ?_
  rintro e w1 ⟨rfl, hb1⟩
  have E1 := Lib.hid (E0.out.step hb1)
  clear hb1 E0
  have kx := E1.out.row.cell 0 _ rfl
  have ky := E1.out.row.cell 1 _ rfl
  by_cases hlong : 64 < n
  · go_wp2_with fail
    go_ret
    exact ⟨rfl, E1.out.bel⟩
  · have hn : n ≤ 140737488355328 := by omega
    go_wp2_with fail
    refine (setLow_any A n c x y N xs w1 E1.out.bs hn x2 hN).mono ?_
    rintro e w2 ⟨A2, n2, c2, rfl, hB2, -, -, hb2⟩
    have E2 := Lib.hid (E1.out.step hb2)
    have S2 := Lib.hid hB2
    clear hb2 E1 kx ky hB2
    have kx := E2.out.row.cell 0 _ rfl
    have ky := E2.out.row.cell 1 _ rfl
    go_wp2_with fail
    refine (setHigh_any A n c x y N xs w2 E2.out.bs hn x2 hN).mono ?_
    rintro e w3 ⟨A3, n3, c3, rfl, hB3, -, -, hb3⟩
    have S2' := Lib.hid (S2.out.later hb3)
    have E3 := Lib.hid (E2.out.step hb3)
    have S3 := Lib.hid hB3
    clear hb3 E2 kx ky hB3 S2
    have kx := E3.out.row.cell 0 _ rfl
    have ky := E3.out.row.cell 1 _ rfl
    by_cases hS : setE n x y N = 0
    · obtain ⟨hE, hNm⟩ := setE_ok hS
      obtain ⟨q1, q2, q3, q4⟩ := getE_ok hE
      obtain ⟨p, rfl⟩ := Int.eq_ofNat_of_zero_le q1
      obtain ⟨m, rfl⟩ := Int.eq_ofNat_of_zero_le q2
      have T2 := Lib.hid (show Bs w3 w3.heap.size A2 n2 (st xs false p m N) from by have := S2'.out; rwa [setV_ok E3.out.bs.1 hS] at this)
      have T3 := Lib.hid (show Bs w3 w3.heap.size A3 n3 (st xs true p m N) from by have := S3.out; rwa [setV_ok E3.out.bs.1 hS] at this)
      obtain rfl : n2 = n := by rw [← T2.out.1, st_length]; exact E3.out.bs.1
      obtain rfl : n3 = n2 := by rw [← T3.out.1, st_length]; exact E3.out.bs.1
      have hl := Lib.hid E3.out.bs.1
      have hp : p + m ≤ 8 * n3 := by omega
      have hm : m ≤ 64 := by omega
      have HN := Lib.hid (show N < 2 ^ m from by simpa using hNm)
      have v1 := Lib.hid (back_get xs false p m N (by rw [hl.out]; exact hp) HN.out)
      have v2 := Lib.hid (back_get xs true p m N (by rw [hl.out]; exact hp) HN.out)
      have vo := Lib.hid (fun hi i h ho => back_other xs hi p m N i (by rw [hl.out]; exact h) ho)
      clear hE hNm q1 q2 q3 q4 S2' S3
      have hnn : ((n3 : Int) != (n3 : Int)) = false := by simp
      have hNN : ((N : Int) != (N : Int)) = false := by simp
      rw [hS]
      clear hS
      go_wp2_with fail
      refine (low_ok A2 n3 c2 p m _ w3 T2.out hn hm hp).mono ?_
      rw [v1.out]
      rintro e w4 ⟨rfl, hb4⟩
      have T2' := Lib.hid (T2.out.later hb4)
      have T3' := Lib.hid (T3.out.later hb4)
      have E4 := Lib.hid (E3.out.step hb4)
      clear hb4 E3 kx ky T2 T3
      have kx := E4.out.row.cell 0 _ rfl
      have ky := E4.out.row.cell 1 _ rfl
      go_wp2_with fail
      refine (high_ok A3 n3 c3 p m _ w4 T3'.out hn hm hp).mono ?_
      rw [v2.out]
      rintro e w5 ⟨rfl, hb5⟩
      have T2 := Lib.hid (T2'.out.later hb5)
      have T3 := Lib.hid (T3'.out.later hb5)
      have E5 := Lib.hid (E4.out.step hb5)
      clear hb5 E4 kx ky T2' T3'
      have kx := E5.out.row.cell 0 _ rfl
      have ky := E5.out.row.cell 1 _ rfl
      go_wp2_with fail
      go_loopw [16] (fun i wr => ∃ k : Nat, k ≤ 8 * n3 ∧ i = .int .i64 k ∧ Below w5.heap.size w5 wr) (fun i _ => 8 * n3 - (intOf i).toNat)
      case atStart => exact ⟨0, Nat.zero_le _, rfl, Below.refl _ _⟩
      case round =>
        obtain ⟨k, hk, rfl, hbw⟩ := hrel
        clear kx ky
        have E6 := Lib.hid (E5.out.step hbw)
        have kx := E6.out.row.cell 0 _ rfl
        have ky := E6.out.row.cell 1 _ rfl
        by_cases hlt : k < 8 * n3
        · by_cases hin : p ≤ k ∧ k < p + m
          · have g1 : decide ((p : Int) ≤ (k : Int)) = true := by simp; omega
            have g2 : decide ((k : Int) < (p : Int) + (m : Int)) = true := by simp; omega
            go_wp2_with fail
            go_roundw
            case rel => exact ⟨k + 1, by omega, by go_num, hbw⟩
            case measure => simp [intOf]; omega
          · have u1 := Lib.hid (vo.out false k hlt hin)
            have u2 := Lib.hid (vo.out true k hlt hin)
            have U2 := Lib.hid (T2.out.later hbw)
            have U3 := Lib.hid (T3.out.later hbw)
            have hvv : ∀ v : Int, (v != v) = false := by intro v; simp
            by_cases g0 : p ≤ k
            · have g2 : decide ((k : Int) < (p : Int) + (m : Int)) = false := by simp; omega
              clear hin
              go_wp2_with fail
              refine (low_ok A2 n3 c2 k 1 _ wr U2.out hn (by omega) (by omega)).mono ?_
              rw [u1.out]
              rintro e w7 ⟨rfl, hb7⟩
              have hb7' := hbw.trans (hb7.mono hbw.size)
              have E7 := Lib.hid (E6.out.step hb7)
              have V3 := Lib.hid (U3.out.later hb7)
              clear hb7 E6 kx ky U2 U3 hbw
              go_wp2_with fail
              refine (low_ok A n3 c k 1 xs w7 E7.out.bs hn (by omega) (by omega)).mono ?_
              rintro e w8 ⟨rfl, hb8⟩
              have hb8' := hb7'.trans (hb8.mono hb7'.size)
              have E8 := Lib.hid (E7.out.step hb8)
              have U3 := Lib.hid (V3.out.later hb8)
              clear hb8 E7 V3 hb7'
              go_wp2_with fail
              refine (high_ok A3 n3 c3 k 1 _ w8 U3.out hn (by omega) (by omega)).mono ?_
              rw [u2.out]
              rintro e w9 ⟨rfl, hb9⟩
              have hb9' := hb8'.trans (hb9.mono hb8'.size)
              have E9 := Lib.hid (E8.out.step hb9)
              clear hb9 E8 U3 hb8'
              go_wp2_with fail
              refine (high_ok A n3 c k 1 xs w9 E9.out.bs hn (by omega) (by omega)).mono ?_
              rintro e w10 ⟨rfl, hb10⟩
              have hb10' := hb9'.trans (hb10.mono hb9'.size)
              clear hb10 E9 hb9'
              have z1 := hvv ((getN xs false k 1 : Nat) : Int)
              have z2 := hvv ((getN xs true k 1 : Nat) : Int)
              go_wp2_with fail
              go_roundw
              case rel => exact ⟨k + 1, by omega, by go_num, hb10'⟩
              case measure => simp [intOf]; omega
            · have g1 : decide (p ≤ k) = false := by simp; omega
              clear hin g0
              go_wp2_with fail
              refine (low_ok A2 n3 c2 k 1 _ wr U2.out hn (by omega) (by omega)).mono ?_
              rw [u1.out]
              rintro e w7 ⟨rfl, hb7⟩
              have hb7' := hbw.trans (hb7.mono hbw.size)
              have E7 := Lib.hid (E6.out.step hb7)
              have V3 := Lib.hid (U3.out.later hb7)
              clear hb7 E6 kx ky U2 U3 hbw
              go_wp2_with fail
              refine (low_ok A n3 c k 1 xs w7 E7.out.bs hn (by omega) (by omega)).mono ?_
              rintro e w8 ⟨rfl, hb8⟩
              have hb8' := hb7'.trans (hb8.mono hb7'.size)
              have E8 := Lib.hid (E7.out.step hb8)
              have U3 := Lib.hid (V3.out.later hb8)
              clear hb8 E7 V3 hb7'
              go_wp2_with fail
              refine (high_ok A3 n3 c3 k 1 _ w8 U3.out hn (by omega) (by omega)).mono ?_
              rw [u2.out]
              rintro e w9 ⟨rfl, hb9⟩
              have hb9' := hb8'.trans (hb9.mono hb8'.size)
              have E9 := Lib.hid (E8.out.step hb9)
              clear hb9 E8 U3 hb8'
              go_wp2_with fail
              refine (high_ok A n3 c k 1 xs w9 E9.out.bs hn (by omega) (by omega)).mono ?_
              rintro e w10 ⟨rfl, hb10⟩
              have hb10' := hb9'.trans (hb10.mono hb9'.size)
              clear hb10 E9 hb9'
              have z1 := hvv ((getN xs false k 1 : Nat) : Int)
              have z2 := hvv ((getN xs true k 1 : Nat) : Int)
              go_wp2_with fail
              go_roundw
              case rel => exact ⟨k + 1, by omega, by go_num, hb10'⟩
              case measure => simp [intOf]; omega
        · obtain rfl : k = 8 * n3 := by omega
          go_wp2_with fail
          go_ret
          exact ⟨rfl, E6.out.bel⟩
    · have h0 : n2 = 0 := by rw [← S2'.out.1, setV_bad E3.out.bs.1 hS]; rfl
      have h1 : n3 = 0 := by rw [← S3.out.1, setV_bad E3.out.bs.1 hS]; rfl
      subst h0 h1
      have hb : (setE n x y N != 0) = true := by simpa using hS
      have hs : (setE n x y N != setE n x y N) = false := by simp
      clear hS
      go_wp2_with fail
      go_ret
      exact ⟨rfl, E3.out.bel⟩

theorem own : ownKnob Try.prog.godebug = none := by kernel_rfl
theorem laidOut : laidOutB Try.prog = true := by kernel_rfl

set_option maxRecDepth 100000 in
theorem lifted (os : Os) (started : os.Started) (H : Type) (enc : TypeId × Value → H) :
    ReturnsInHanded {} Try.checked os 4 .any (Rows.bitsBackSpec.pre6 enc Try.prog Try.f4 Rows.bitsBackRow.domain false) (Rows.bitsBackSpec.post enc Try.prog Try.f4 false true false false) := by
  refine returnsInHanded_of_change (C := Try.checked) own started (by kernel_rfl) Try.func4
    (ChangeSpec.witness6 (enc := enc) (C := Try.checked) false ⟨#[], #[.slice none 0 0, .agg #[.int .i64 0, .int .i64 0], .int .u64 0], []⟩ 8 (by kernel_rfl) (by kernel_rfl) (by kernel_rfl) (by kernel_rfl)) ?_
  intro W base args ds gs before hval0 hW hcnd _
  have hval : ∀ (j : Nat) t v, Try.f4.params[j]? = some t → args[j]? = some v → Value.okWide Try.prog W .any base t v := hval0
  have hW' := hW
  obtain ⟨p, q, hA0, hV, rfl, hfz, hnd⟩ := hW
  have hA : DataW.TrodAll enc Try.prog W 0 (fun _ => true) true Try.f4.params.toList args.toList ds p := hA0
  rw [Try.params4] at hA hval
  obtain ⟨v0, vs0, d0, ds0, p0, q0, hargs, rfl, rfl, h0, r0⟩ := trodAll_cons hA
  obtain ⟨v1, vs1, d1, ds1, p1, q1, rfl, rfl, rfl, h1, r1⟩ := trodAll_cons r0
  obtain ⟨v2, vs2, d2, ds2, p2, q2, rfl, rfl, rfl, h2, r2⟩ := trodAll_cons r1
  obtain ⟨rfl, rfl, rfl⟩ := trodAll_nil r2
  obtain rfl : args = #[v0, v1, v2] := by cases args; simp_all
  have lt0 : ∀ x ∈ p0, x.block < W.heap.size := by obtain ⟨m, hm⟩ := h0; exact DataW.trod_lt m _ _ _ hm
  have lt1 : ∀ x ∈ p1, x.block < W.heap.size := by obtain ⟨m, hm⟩ := h1; exact DataW.trod_lt m _ _ _ hm
  obtain ⟨rfl, rfl⟩ := trodVars_none hV
  obtain ⟨A0, n0, c0, xs0, rfl, hB0, hc0, hcm0⟩ := open_bytes Try.underlying22 Try.underlying5 (by kernel_rfl) (hval 0 22 v0 rfl rfl) h0
  obtain ⟨x10, x11, rfl, b10, b11⟩ := open_arr2 Try.underlying38 Try.underlying3 (by kernel_rfl) (by kernel_rfl) (hval 1 38 v1 rfl rfl) h1
  obtain ⟨a2, rfl, rfl, rfl, w2⟩ := open_int Try.underlying24 (hval 2 24 v2 rfl rfl) h2
  obtain ⟨m2, rfl⟩ := Int.eq_ofNat_of_zero_le (bounds_u64 w2).1
  have hm2 := (bounds_u64 w2).2
  clear hA0 hval0
  refine (walk A0 n0 c0 xs0 x10 x11 m2 W hB0 b10.2 (by omega)).mono fun e W' ⟨he, bel⟩ => ?_
  subst he
  exact ⟨_, rfl, _, _, _, [], _, [], hW', trodAll_mk1 (shut_bool Try.underlying4 _), (trodAll_cons_mk (Below.trod laidOut (by kernel_rfl) (of_decide_eq_true (by kernel_rfl)) h0 bel lt0) (trodAll_cons_mk (Below.trod laidOut (by kernel_rfl) (of_decide_eq_true (by kernel_rfl)) h1 bel lt1) (trodAll_cons_mk (shut_int Try.underlying24 w2) trodAll_mk0))), rfl, bel.frame _, fun h => by cases h⟩

theorem over : Rows.bitsBackRow.holds Try.pinned (OpenSpec.ofChange Rows.bitsBackSpec) :=
  OpenClaim.holds_of_wide 4 Try.f4 rfl rfl rfl rfl rfl rfl rfl ⟨rfl, rfl, rfl, rfl, rfl⟩ rfl rfl rfl rfl rfl (by kernel_rfl) Try.func4 (by kernel_rfl)
    (of_decide_eq_true (by kernel_rfl)) (by unfold Func.isWrapper; first | (rw [if_pos (by decide +kernel)]; kernel_rfl) | (rw [if_neg (by decide +kernel)]; exact ⟨rfl, rfl⟩))
    (fun os started H enc _ => lifted os started H enc)
end Go.Proofs.Ytbjmmllnhanmpaa.bitsBack

namespace Go.Proofs.Ytbjmmllnhanmpaa
theorem bitsBack_holds : Rows.BitsBackSaid := bitsBack.over
#print axioms bitsBack_holds
end Go.Proofs.Ytbjmmllnhanmpaa
