/- BitsTell: at any bits of any bytes, for any number, Low, High, SetLow, SetHigh and Lows of package bits answer just what the document's own answers are; no condition. -/
import Derived.Test.YtbjmmllnhanmpaaRows
import Derived.Test.YtbjmmllnhanmpaaBitAwake
import Derived.Test.YtbjmmllnhanmpaaSame
import Derived.Test.YtbjmmllnhanmpaaEnv
import Derived.Test.YtbjmmllnhanmpaaOpen
import Derived.OpenShut
import Derived.ShutString
import Derived.ChangeOld
import Derived.Below
namespace Go.Proofs.Ytbjmmllnhanmpaa.bitsTell
open Go.ChangeShapes Go.WideShapes Go.ChangeAt Go.RowKit
open Bi

theorem setV_le (xs : List Nat) (hi : Bool) (p m : Int) (N : Nat) : (setV xs hi p m N).length ≤ xs.length := by
  unfold setV
  split
  · rw [st_length]; omega
  · simp

set_option maxHeartbeats 4000000 in
set_option maxRecDepth 100000 in
theorem walk (A : Option Addr) (n c : Nat) (xs : List Nat) (x y z : Int) (N : Nat) (w : World) (h : Bs w w.heap.size A n xs)
    (x2 : x ≤ 9223372036854775807) (hN : N < 18446744073709551616) :
    Calls Try.prog 3 #[.slice A n c, .agg #[.int .i64 x, .int .i64 y, .int .i64 z], .int .u64 (N : Int)] w fun e w' => e = .returned (.bool true) ∧ Below w.heap.size w w' := by
  have E0 := Lib.hid (Env.start x y z 23 h)
  clear h
  go_enter Try.func3, Try.ntmps3
  go_wp2_with fail
  refine (awake_any _).mono ?_
  rintro e w1 ⟨rfl, hb1⟩
  have E1 := Lib.hid (E0.out.step hb1)
  clear hb1 E0
  have kx := E1.out.cx
  have ky := E1.out.cy
  have kz := E1.out.cz
  by_cases hlong : 64 < n
  · go_wp2_with fail
    go_ret
    exact ⟨rfl, E1.out.bel⟩
  · have hn : n ≤ 140737488355328 := by omega
    go_wp2_with fail
    refine (low_any A n c x y xs w1 E1.out.bs hn x2).mono ?_
    rintro e w2 ⟨rfl, hb2⟩
    have E2 := Lib.hid (E1.out.step hb2)
    clear hb2 E1 kx ky kz
    have kx := E2.out.cx
    have ky := E2.out.cy
    have kz := E2.out.cz
    go_wp2_with fail
    refine (rget_any A n c x y false xs _ w2 E2.out.bs hn).mono ?_
    rintro e w' ⟨rfl, rfl⟩
    go_wp2_with fail
    refine (high_any A n c x y xs w2 E2.out.bs hn x2).mono ?_
    rintro e w3 ⟨rfl, hb3⟩
    have E3 := Lib.hid (E2.out.step hb3)
    clear hb3 E2 kx ky kz
    have kx := E3.out.cx
    have ky := E3.out.cy
    have kz := E3.out.cz
    go_wp2_with fail
    refine (rget_any A n c x y true xs _ w3 E3.out.bs hn).mono ?_
    rintro e w' ⟨rfl, rfl⟩
    go_wp2_with fail
    refine (setLow_any A n c x y N xs w3 E3.out.bs hn x2 hN).mono ?_
    rintro e w4 ⟨A4, n4, c4, rfl, hB4, -, -, hb4⟩
    have E4 := Lib.hid (E3.out.step hb4)
    clear hb4 E3 kx ky kz
    have kx := E4.out.cx
    have ky := E4.out.cy
    have kz := E4.out.cz
    have S4 := Lib.hid hB4
    clear hB4
    go_wp2_with fail
    refine (rset_any A n c x y false N xs w4 E4.out.bs hn hN).mono ?_
    rintro e w5 ⟨A5, n5, c5, rfl, hB5, -, -, hb5⟩
    have S4' := Lib.hid (S4.out.later hb5)
    have E5 := Lib.hid (E4.out.step hb5)
    clear hb5 E4 kx ky kz S4
    have kx := E5.out.cx
    have ky := E5.out.cy
    have kz := E5.out.cz
    have S5 := Lib.hid hB5
    clear hB5
    go_wp2_with fail
    refine (setHigh_any A n c x y N xs w5 E5.out.bs hn x2 hN).mono ?_
    rintro e w6 ⟨A6, n6, c6, rfl, hB6, -, -, hb6⟩
    have S4 := Lib.hid (S4'.out.later hb6)
    have S5' := Lib.hid (S5.out.later hb6)
    have E6 := Lib.hid (E5.out.step hb6)
    clear hb6 E5 kx ky kz S4' S5
    have kx := E6.out.cx
    have ky := E6.out.cy
    have kz := E6.out.cz
    have S6 := Lib.hid hB6
    clear hB6
    go_wp2_with fail
    refine (rset_any A n c x y true N xs w6 E6.out.bs hn hN).mono ?_
    rintro e w7 ⟨A7, n7, c7, rfl, hB7, -, -, hb7⟩
    have S4' := Lib.hid (S4.out.later hb7)
    have S5 := Lib.hid (S5'.out.later hb7)
    have S6' := Lib.hid (S6.out.later hb7)
    have E7 := Lib.hid (E6.out.step hb7)
    clear hb7 E6 kx ky kz S4 S5' S6
    have kx := E7.out.cx
    have ky := E7.out.cy
    have kz := E7.out.cz
    have S7 := Lib.hid hB7
    clear hB7
    go_wp2_with fail
    have p1 : n4 ≤ 9223372036854775807 := by have := S4'.out.1; have := setV_le xs false x y N; have := E7.out.bs.1; omega
    refine (same_any A4 A5 n4 n5 c4 c5 _ _ _ _ w7 S4'.out S5.out p1).mono ?_
    intro e w8 hT
    have b8 := hT.below
    obtain ⟨rfl, q, rfl⟩ := hT
    rw [decide_eq_true (rfl : setV xs false x y N = setV xs false x y N)]
    have S6 := Lib.hid (S6'.out.later b8)
    have S7' := Lib.hid (S7.out.later b8)
    have E8 := Lib.hid (E7.out.step b8)
    have p2 : n6 ≤ 9223372036854775807 := by have := S6.out.1; have := setV_le xs true x y N; have := E8.out.bs.1; omega
    clear E7 S4' S5 S6' S7 b8 kx ky kz
    generalize w7.drewN q = w8 at *
    have kx := E8.out.cx
    have ky := E8.out.cy
    have kz := E8.out.cz
    go_wp2_with fail
    refine (same_any A6 A7 n6 n7 c6 c7 _ _ _ _ w8 S6.out S7'.out p2).mono ?_
    intro e w9 hT
    have b9 := hT.below
    obtain ⟨rfl, q', rfl⟩ := hT
    rw [decide_eq_true (rfl : setV xs true x y N = setV xs true x y N)]
    have E9 := Lib.hid (E8.out.step b9)
    clear E8 b9 S6 S7' kx ky kz
    generalize w8.drewN q' = w9 at *
    have kx := E9.out.cx
    have ky := E9.out.cy
    have kz := E9.out.cz
    go_wp2_with fail
    refine (lows_any A n c x y z xs w9 E9.out.bs hn x2).mono ?_
    rintro e w10 ⟨A10, n10, c10, rfl, hB10, hb10⟩
    have E10 := Lib.hid (E9.out.step hb10)
    have S10 := Lib.hid hB10
    clear hb10 E9 kx ky kz hB10
    have kx := E10.out.cx
    have ky := E10.out.cy
    have kz := E10.out.cz
    go_wp2_with fail
    refine (rlows_any A n c x y z xs w10 E10.out.bs hn).mono ?_
    rintro e w11 ⟨A11, n11, c11, rfl, hB11, hb11⟩
    have S10' := Lib.hid (S10.out.later hb11)
    have E11 := Lib.hid (E10.out.step hb11)
    have S11 := Lib.hid hB11
    clear hb11 E10 kx ky kz hB11 S10
    obtain rfl : n10 = n11 := S10'.out.length.symm.trans S11.out.length
    have hne : ((n10 : Int) != (n10 : Int)) = false := by simp
    have hl10 : n10 ≤ 9223372036854775807 := by
      have := S10'.out.length
      have h1 := E11.out.bs.1
      unfold lowsV at this
      split at this
      · rename_i hE
        obtain ⟨q1, q2, q3, q4, q5, q6⟩ := lowsE_ok hE
        rw [lowsL_length] at this
        omega
      · simp at this; omega
    go_wp2_with fail
    go_loopw [30] (fun i wr => ∃ k q : Nat, k ≤ n10 ∧ i = .int .i64 k ∧ wr = w11.drewN q) (fun i _ => n10 - (intOf i).toNat)
    case atStart => exact ⟨0, 0, Nat.zero_le _, rfl, rfl⟩
    case round =>
      obtain ⟨k, q2, hk, rfl, rfl⟩ := hrel
      by_cases hlt : k < n10
      · obtain ⟨b, off, rfl, hb1, hc1⟩ := S10'.out.open (by omega)
        obtain ⟨b', off', rfl, hb2, hc2⟩ := S11.out.open (by omega)
        have hx := hc1 k hlt
        have hy := hc2 k hlt
        clear hc1 hc2
        generalize (lowsV xs x y z).getD k 0 = v at *
        have hvv : (v != v) = false := by simp
        go_wp2_with fail
        go_quiet (fail)
        go_wp2_with fail
        go_roundw
        case rel => exact ⟨k + 1, _, by omega, by go_num, rfl⟩
        case measure => simp [intOf]; omega
      · obtain rfl : k = n10 := by omega
        go_wp2_with fail
        go_ret
        exact ⟨rfl, E11.out.bel.trans ⟨rfl, rfl, rfl, Nat.le_refl _, fun _ _ => rfl⟩⟩

theorem own : ownKnob Try.prog.godebug = none := by kernel_rfl
theorem laidOut : laidOutB Try.prog = true := by kernel_rfl

set_option maxRecDepth 100000 in
theorem lifted (os : Os) (started : os.Started) (H : Type) (enc : TypeId × Value → H) :
    ReturnsInHanded {} Try.checked os 3 .any (Rows.bitsTellSpec.pre6 enc Try.prog Try.f3 Rows.bitsTellRow.domain false) (Rows.bitsTellSpec.post enc Try.prog Try.f3 false true false false) := by
  refine returnsInHanded_of_change (C := Try.checked) own started (by kernel_rfl) Try.func3
    (ChangeSpec.witness6 (enc := enc) (C := Try.checked) false ⟨#[], #[.slice none 0 0, .agg #[.int .i64 0, .int .i64 0, .int .i64 0], .int .u64 0], []⟩ 8 (by kernel_rfl) (by kernel_rfl) (by kernel_rfl) (by kernel_rfl)) ?_
  intro W base args ds gs before hval0 hW hcnd _
  have hval : ∀ (j : Nat) t v, Try.f3.params[j]? = some t → args[j]? = some v → Value.okWide Try.prog W .any base t v := hval0
  have hW' := hW
  obtain ⟨p, q, hA0, hV, rfl, hfz, hnd⟩ := hW
  have hA : DataW.TrodAll enc Try.prog W 0 (fun _ => true) true Try.f3.params.toList args.toList ds p := hA0
  rw [Try.params3] at hA hval
  obtain ⟨v0, vs0, d0, ds0, p0, q0, hargs, rfl, rfl, h0, r0⟩ := trodAll_cons hA
  obtain ⟨v1, vs1, d1, ds1, p1, q1, rfl, rfl, rfl, h1, r1⟩ := trodAll_cons r0
  obtain ⟨v2, vs2, d2, ds2, p2, q2, rfl, rfl, rfl, h2, r2⟩ := trodAll_cons r1
  obtain ⟨rfl, rfl, rfl⟩ := trodAll_nil r2
  obtain rfl : args = #[v0, v1, v2] := by cases args; simp_all
  have lt0 : ∀ x ∈ p0, x.block < W.heap.size := by obtain ⟨m, hm⟩ := h0; exact DataW.trod_lt m _ _ _ hm
  have lt1 : ∀ x ∈ p1, x.block < W.heap.size := by obtain ⟨m, hm⟩ := h1; exact DataW.trod_lt m _ _ _ hm
  obtain ⟨rfl, rfl⟩ := trodVars_none hV
  obtain ⟨A0, n0, c0, xs0, rfl, hB0, hc0, hcm0⟩ := open_bytes Try.underlying22 Try.underlying5 (by kernel_rfl) (hval 0 22 v0 rfl rfl) h0
  obtain ⟨x10, x11, x12, rfl, b10, b11, b12⟩ := open_arr3 Try.underlying23 Try.underlying3 (by kernel_rfl) (by kernel_rfl) (hval 1 23 v1 rfl rfl) h1
  obtain ⟨a2, rfl, rfl, rfl, w2⟩ := open_int Try.underlying24 (hval 2 24 v2 rfl rfl) h2
  obtain ⟨m2, rfl⟩ := Int.eq_ofNat_of_zero_le (bounds_u64 w2).1
  have hm2 := (bounds_u64 w2).2
  clear hA0 hval0
  refine (walk A0 n0 c0 xs0 x10 x11 x12 m2 W hB0 b10.2 (by omega)).mono fun e W' ⟨he, bel⟩ => ?_
  subst he
  exact ⟨_, rfl, _, _, _, [], _, [], hW', trodAll_mk1 (shut_bool Try.underlying4 _), (trodAll_cons_mk (Below.trod laidOut (by kernel_rfl) (of_decide_eq_true (by kernel_rfl)) h0 bel lt0) (trodAll_cons_mk (Below.trod laidOut (by kernel_rfl) (of_decide_eq_true (by kernel_rfl)) h1 bel lt1) (trodAll_cons_mk (shut_int Try.underlying24 w2) trodAll_mk0))), rfl, bel.frame _, fun h => by cases h⟩

theorem over : Rows.bitsTellRow.holds Try.pinned (OpenSpec.ofChange Rows.bitsTellSpec) :=
  OpenClaim.holds_of_wide 3 Try.f3 rfl rfl rfl rfl rfl rfl rfl ⟨rfl, rfl, rfl, rfl, rfl⟩ rfl rfl rfl rfl rfl (by kernel_rfl) Try.func3 (by kernel_rfl)
    (of_decide_eq_true (by kernel_rfl)) (by unfold Func.isWrapper; first | (rw [if_pos (by decide +kernel)]; kernel_rfl) | (rw [if_neg (by decide +kernel)]; exact ⟨rfl, rfl⟩))
    (fun os started H enc _ => lifted os started H enc)
end Go.Proofs.Ytbjmmllnhanmpaa.bitsTell

namespace Go.Proofs.Ytbjmmllnhanmpaa
theorem bitsTell_holds : Rows.BitsTellSaid := bitsTell.over
#print axioms bitsTell_holds
end Go.Proofs.Ytbjmmllnhanmpaa
