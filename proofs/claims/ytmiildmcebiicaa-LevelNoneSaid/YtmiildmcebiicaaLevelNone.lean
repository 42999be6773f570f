/- LevelNone: none of some numbers is better for all of some than what is told to be; a number that all are is best; no condition. -/
import Derived.Test.YtmiildmcebiicaaRows
import Derived.Test.YtmiildmcebiicaaLvAwake
import Derived.Test.YtmiildmcebiicaaOpenArr
import Derived.OpenShut
import Derived.ShutString
import Derived.ChangeOld
import Derived.Below
namespace Go.Proofs.Ytmiildmcebiicaa.levelNone
open Go.ChangeShapes Go.WideShapes Go.ChangeAt Go.RowKit
open Lv

theorem sq_zero (z : Int) (h : z * z ≤ 0) : z = 0 := by
  rcases Int.lt_trichotomy z 0 with h1 | h1 | h1
  · have := Int.mul_pos_of_neg_of_neg h1 h1; omega
  · exact h1
  · have := Int.mul_pos h1 h1; omega
theorem sumV3 (x y : Int) : sumV y [x, x, x] = (y - x) * (y - x) + ((y - x) * (y - x) + ((y - x) * (y - x) + 0)) := rfl

set_option maxHeartbeats 1000000 in
theorem best_nil (Al : Option Addr) (nl cl : Nat) (w : World) :
    Calls Try.prog 18 #[.slice none 0 0, .slice Al nl cl] w fun e w' => e = .returned (.int .i64 0) ∧ Below w.heap.size w w' := by
  go_enter Try.func18, Try.ntmps18
  go_wp2_with fail
  refine (first_best _ _ 0 (fun _ => 0) _ (by omega) (fun q i hi => absurd hi (by omega))).mono ?_
  rintro e w' ⟨rfl, r, rfl⟩
  go_wp2
  go_ret
  exact ⟨rfl, two_below w _ _ _ _ _⟩

set_option maxHeartbeats 4000000 in
set_option maxRecDepth 100000 in
theorem walk (A : Option Addr) (n c : Nat) (vs : List Int) (A' : Option Addr) (n' c' : Nat) (ls : List Int) (at_ : Int) (w : World) (h : Is w w.heap.size A n vs) (h' : Is w w.heap.size A' n' ls) (hn : n ≤ 9223372036854775807) (hn' : n' ≤ 9223372036854775807) :
    Calls Try.prog 6 #[.slice A n c, .slice A' n' c', .int .i64 at_] w fun e w' => e = .returned (.bool true) ∧ Below w.heap.size w w' := by
  have H := Lib.hid h
  have H' := Lib.hid h'
  clear h h'
  go_enter Try.func6, Try.ntmps6
  go_wp2_with fail
  refine (awake_any _).mono ?_
  rintro e w1 ⟨rfl, hb1⟩
  have B1 := Lib.hid hb1
  have H1 := Lib.hid (H.out.later hb1)
  have H1' := Lib.hid (H'.out.later hb1)
  clear hb1 H H'
  go_wp2_with fail
  refine (smalls_any A n c vs _ _ H1.out hn).mono ?_
  rintro e w' ⟨rfl, rfl⟩
  go_wp2_with fail
  refine (smalls_any A' n' c' ls _ _ H1'.out hn').mono ?_
  rintro e w' ⟨rfl, rfl⟩
  by_cases h1 : smB vs = true ∧ smB ls = true ∧ 0 < n
  · obtain ⟨s1, s2, hn0⟩ := h1
    rw [s1, s2]
    obtain ⟨a1, l1⟩ := smB_all s1
    obtain ⟨a2, l2⟩ := smB_all s2
    rw [H1.out.length] at l1
    rw [H1'.out.length] at l2
    go_wp2_with fail
    refine (best_any A A' n c n' c' vs ls _ H1.out H1'.out a1 a2 (by omega) (by omega)).mono ?_
    rintro e w2 ⟨rfl, hb2⟩
    have I2 := Lib.hid (show Is w2 w2.heap.size A n vs ∧ Is w2 w2.heap.size A' n' ls ∧ Below w.heap.size w w2 from ⟨H1.out.later hb2, H1'.out.later hb2, B1.out.trans (hb2.mono B1.out.size)⟩)
    have hbk := Lib.hid (show bestV vs ls = argm (fun i => sumV (vs.getD i 0) ls) n from by rw [bestV, H1.out.length])
    have hk : bestV vs ls < n := by rw [hbk.out]; exact argm_lt _ n hn0
    have hleast := Lib.hid (show ∀ i, i < n → sumV (vs.getD (bestV vs ls) 0) ls ≤ sumV (vs.getD i 0) ls ∧ (i < bestV vs ls → sumV (vs.getD (bestV vs ls) 0) ls < sumV (vs.getD i 0) ls) from fun i hi => by
      rw [hbk.out]; exact argm_least (fun i => sumV (vs.getD i 0) ls) n i hi)
    have A1 := Lib.hid a1
    have A2 := Lib.hid a2
    have L1 := Lib.hid H1.out.length
    have L2 := Lib.hid H1'.out.length
    clear hb2 H1 H1' B1 hbk a1 a2 s1 s2
    generalize bestV vs ls = k at *
    have hxk := getD_sm vs k n L1.out hk A1.out
    go_wp2_with fail
    simp only [show decide (n ≤ k) = false from by simp; omega, show decide ((k : Int) < 0) = false from by rw [decide_eq_false_iff_not]; omega, Bool.or_false]
    go_loopw [11, 12, 13, 14, 15] (fun i _ _ _ _ wr => ∃ m : Nat, m ≤ n ∧ i = .int .i64 m ∧ Hid (Is wr wr.heap.size A n vs ∧ Is wr wr.heap.size A' n' ls ∧ Below w.heap.size w wr)) (fun i _ _ _ _ _ => n - (intOf i).toNat)
    case atStart => exact ⟨0, Nat.zero_le _, rfl, I2⟩
    case round =>
      obtain ⟨m, hm, rfl, hI⟩ := hrel
      clear I2
      by_cases hlt : m < n
      · have hxi := getD_sm vs m n L1.out hlt A1.out
        have hL := Lib.hid (hleast.out m hlt)
        go_wp2_with fail
        go_loopw [12, 13, 14, 15] (fun d j _ _ wr => ∃ q : Nat, q ≤ n' ∧ j = .int .i64 q ∧ d = .int .i64 (sumV (vs.getD m 0) (ls.take q) - sumV (vs.getD k 0) (ls.take q)) ∧ Hid (Is wr wr.heap.size A n vs ∧ Is wr wr.heap.size A' n' ls ∧ Below w.heap.size w wr)) (fun _ j _ _ _ => n' - (intOf j).toNat)
        case atStart => exact ⟨0, Nat.zero_le _, rfl, rfl, hI⟩
        case round =>
          clear hI
          obtain ⟨q, hq, rfl, rfl, hI⟩ := hrel
          by_cases hql : q < n'
          · obtain ⟨bv, ov, rfl, -, hcv⟩ := hI.out.1.open (by omega)
            obtain ⟨bl, ol, rfl, -, hcl⟩ := hI.out.2.1.open (by omega)
            have hc1 := hcv m hlt
            have hc2 := hcv k hk
            have hc3 := hcl q hql
            have hs1 := sumV_next (vs.getD m 0) ls q n' L2.out hql hxi A2.out (by omega)
            have hs2 := sumV_next (vs.getD k 0) ls q n' L2.out hql hxk A2.out (by omega)
            clear hcv hcl hL hleast
            generalize vs.getD m 0 = xi at *
            generalize vs.getD k 0 = xk at *
            generalize ls.getD q 0 = y at *
            obtain ⟨e1, ⟨s10, s11⟩, y0, y1⟩ := hs1
            obtain ⟨e2, ⟨s20, s21⟩, -, -⟩ := hs2
            obtain ⟨xi0, xi1⟩ := hxi
            obtain ⟨xk0, xk1⟩ := hxk
            have E1 := Lib.hid e1
            have E2 := Lib.hid e2
            clear e1 e2
            generalize sumV xi (ls.take q) = S1 at *
            generalize sumV xk (ls.take q) = S2 at *
            have q1 := sq_bd (xi - y) (by omega) (by omega)
            have q2 := sq_bd (xk - y) (by omega) (by omega)
            obtain ⟨X2, hX2⟩ : ∃ X2, X2 = (xi - y) * (xi - y) := ⟨_, rfl⟩
            obtain ⟨Y2, hY2⟩ : ∃ Y2, Y2 = (xk - y) * (xk - y) := ⟨_, rfl⟩
            have hw1 : wrap64 ((xi - y) * (xi - y)) = X2 := by rw [hX2]; exact wrap64_small _ (by omega) (by omega)
            have hw2 : wrap64 ((xk - y) * (xk - y)) = Y2 := by rw [hY2]; exact wrap64_small _ (by omega) (by omega)
            rw [← hX2] at E1 q1
            rw [← hY2] at E2 q2
            clear hX2 hY2
            obtain ⟨q10, q11⟩ := q1
            obtain ⟨q20, q21⟩ := q2
            have i1 : (m : Int) < (n : Int) := by omega
            have i2 : (k : Int) < (n : Int) := by omega
            have i3 : (q : Int) < (n' : Int) := by omega
            have hd1 : IntKind.i64.wrap (xi - y) = xi - y := IntWalk.i64_in _ (by omega)
            have hd2 : IntKind.i64.wrap (xk - y) = xk - y := IntWalk.i64_in _ (by omega)
            go_wp2_with fail
            go_quiet (fail)
            go_wp2_with fail
            go_quiet (fail)
            clear hd1 hd2
            go_wp2_with fail
            go_roundw
            case rel =>
              refine ⟨q + 1, by omega, by go_num, ?_, ⟨hI.out.1, hI.out.2.1, hI.out.2.2.trans ⟨rfl, rfl, rfl, Nat.le_refl _, fun _ _ => rfl⟩⟩⟩
              rw [E1.out, E2.out]
              congr 1
              omega
            case measure => simp [intOf]; omega
          · obtain rfl : q = n' := by omega
            rw [List.take_of_length_le (by rw [L2.out]; omega)]
            have hL := hL.out
            clear hleast
            generalize sumV (vs.getD m 0) ls = S1 at *
            generalize sumV (vs.getD k 0) ls = S2 at *
            obtain ⟨D, hD⟩ : ∃ D, D = S1 - S2 := ⟨_, rfl⟩
            rw [← hD]
            have hD0 : 0 ≤ D := by omega
            have hDk : m < k → 0 < D := by intro h; have := hL.2 h; omega
            clear hL hD
            by_cases hmk : m < k
            · have hD1 := hDk hmk
              have hne : (D == 0) = false := by simp; omega
              clear hDk
              go_wp2_with fail
              go_roundw
              case rel => exact ⟨m + 1, by omega, by go_num, hI⟩
              case measure => simp [intOf]; omega
            · clear hDk
              by_cases hz : D = 0
              · subst hz
                go_wp2_with fail
                go_roundw
                case rel => exact ⟨m + 1, by omega, by go_num, hI⟩
                case measure => simp [intOf]; omega
              · have hne : (D == 0) = false := by simp; omega
                go_wp2_with fail
                go_roundw
                case rel => exact ⟨m + 1, by omega, by go_num, hI⟩
                case measure => simp [intOf]; omega
      · obtain rfl : m = n := by omega
        clear hleast
        by_cases ha0 : at_ < 0
        · go_wp2_with fail
          go_ret
          exact ⟨rfl, hI.out.2.2⟩
        · by_cases ha1 : at_ ≥ m
          · go_wp2_with fail
            go_ret
            exact ⟨rfl, hI.out.2.2⟩
          · obtain ⟨a, rfl⟩ := Int.eq_ofNat_of_zero_le (show 0 ≤ at_ by omega)
            have ham : a < m := by omega
            obtain ⟨bv, ov, rfl, -, hcv⟩ := hI.out.1.open (by omega)
            have hc1 := hcv a ham
            have hxa := Lib.hid (getD_sm vs a m L1.out ham A1.out)
            have hbk := Lib.hid (show bestV vs [vs.getD a 0, vs.getD a 0, vs.getD a 0] < m ∧ vs.getD (bestV vs [vs.getD a 0, vs.getD a 0, vs.getD a 0]) 0 = vs.getD a 0 from by
              have e : bestV vs [vs.getD a 0, vs.getD a 0, vs.getD a 0] = argm (fun i => sumV (vs.getD i 0) [vs.getD a 0, vs.getD a 0, vs.getD a 0]) m := by rw [bestV, L1.out]
              have h1 := argm_lt (fun i => sumV (vs.getD i 0) [vs.getD a 0, vs.getD a 0, vs.getD a 0]) m hn0
              have h2 := (argm_least (fun i => sumV (vs.getD i 0) [vs.getD a 0, vs.getD a 0, vs.getD a 0]) m a ham).1
              rw [← e] at h1 h2
              refine ⟨h1, ?_⟩
              generalize bestV vs [vs.getD a 0, vs.getD a 0, vs.getD a 0] = t at *
              simp only [sumV3, Int.sub_self, Int.mul_zero, Int.add_zero] at h2
              have h3 := sq_zero (vs.getD t 0 - vs.getD a 0) (by omega)
              omega)
            have HC := Lib.hid hcv
            clear hcv
            generalize vs.getD a 0 = x at *
            have hF := Lib.hid ((Row.newInts wr 3 [x, x, x]).is 3 rfl)
            have hbz := Lib.hid ((Below.refl wr.heap.size wr).alloc (Nat.le_refl _) (.cells (i64s [x, x, x]).toArray 3))
            have hV := Lib.hid (hI.out.1.later hbz.out)
            have hBst := Lib.hid (best_any (some ⟨bv, ov, none⟩) (some ⟨wr.heap.size, 0, none⟩) m c 3 3 vs [x, x, x] _ hV.out hF.out A1.out (by intro z hz; simp at hz; rw [hz]; exact hxa.out) (by omega) (by omega))
            have hBel := Lib.hid (hI.out.2.2.trans (hbz.out.mono hI.out.2.2.size))
            have ht := hbk.out.1
            have htx := Lib.hid hbk.out.2
            clear hbk
            generalize bestV vs [x, x, x] = t at *
            have hct := Lib.hid (show wr.cell? ⟨bv, ov + t, none⟩ = some (.int .i64 x) from by rw [← htx.out]; exact HC.out t ht)
            have hlt' := Lib.hid (block_lt_of_cell hct.out)
            go_wp2_with (go_at_call 18; refine hBst.out.mono ?_; rintro e w3 ⟨rfl, hb3⟩
                         have hc3 : w3.cell? ⟨bv, ov + t, none⟩ = some (.int .i64 x) := (hb3.cell (p := ⟨bv, ov + t, none⟩) (Nat.lt_of_lt_of_le hlt'.out hbz.out.size)).trans ((hbz.out.cell hlt'.out).trans hct.out)
                         have B3 := Lib.hid (hBel.out.trans (hb3.mono (Nat.le_trans hI.out.2.2.size hbz.out.size))))
            go_ret
            exact ⟨rfl, B3.out⟩
  · have hnil := Lib.hid (show smB vs = true → smB ls = true → n = 0 from fun a b => by
      rcases Nat.eq_zero_or_pos n with h | h
      · exact h
      · exact absurd ⟨a, b, h⟩ h1)
    clear h1
    by_cases s1 : smB vs = true
    · by_cases s2 : smB ls = true
      · obtain rfl := hnil.out s1 s2
        rw [s1, s2]
        clear hnil
        go_wp2_with (go_at_call 18; refine (best_nil _ _ _ _).mono ?_; rintro e w2 ⟨rfl, hb2⟩)
        go_ret
        exact ⟨rfl, B1.out.trans (hb2.mono B1.out.size)⟩
      · have s2' : smB ls = false := by simpa using s2
        rw [s1, s2']
        clear hnil
        go_wp2_with (go_at_call 18; refine (best_nil _ _ _ _).mono ?_; rintro e w2 ⟨rfl, hb2⟩)
        go_ret
        exact ⟨rfl, B1.out.trans (hb2.mono B1.out.size)⟩
    · have s1' : smB vs = false := by simpa using s1
      rw [s1']
      clear hnil
      go_wp2_with (go_at_call 18; refine (best_nil _ _ _ _).mono ?_; rintro e w2 ⟨rfl, hb2⟩)
      go_ret
      exact ⟨rfl, B1.out.trans (hb2.mono B1.out.size)⟩


theorem own : ownKnob Try.prog.godebug = none := by kernel_rfl
theorem laidOut : laidOutB Try.prog = true := by kernel_rfl

set_option maxRecDepth 100000 in
theorem lifted (os : Os) (started : os.Started) (H : Type) (enc : TypeId × Value → H) :
    ReturnsInHanded {} Try.checked os 6 .any (Rows.levelNoneSpec.pre6 enc Try.prog Try.f6 Rows.levelNoneRow.domain false) (Rows.levelNoneSpec.post enc Try.prog Try.f6 false true false false) := by
  refine returnsInHanded_of_change (C := Try.checked) own started (by kernel_rfl) Try.func6
    (ChangeSpec.witness6 (enc := enc) (C := Try.checked) false ⟨#[], #[.slice none 0 0, .slice none 0 0, .int .i64 0], []⟩ 8 (by kernel_rfl) (by kernel_rfl) (by kernel_rfl) (by kernel_rfl)) ?_
  intro W base args ds gs before hval0 hW hcnd _
  have hval : ∀ (j : Nat) t v, Try.f6.params[j]? = some t → args[j]? = some v → Value.okWide Try.prog W .any base t v := hval0
  have hW' := hW
  obtain ⟨p, q, hA0, hV, rfl, hfz, hnd⟩ := hW
  have hA : DataW.TrodAll enc Try.prog W 0 (fun _ => true) true Try.f6.params.toList args.toList ds p := hA0
  rw [Try.params6] at hA hval
  obtain ⟨v0, vs0, d0, ds0, p0, q0, hargs, rfl, rfl, h0, r0⟩ := trodAll_cons hA
  obtain ⟨v1, vs1, d1, ds1, p1, q1, rfl, rfl, rfl, h1, r1⟩ := trodAll_cons r0
  obtain ⟨v2, vs2, d2, ds2, p2, q2, rfl, rfl, rfl, h2, r2⟩ := trodAll_cons r1
  obtain ⟨rfl, rfl, rfl⟩ := trodAll_nil r2
  obtain rfl : args = #[v0, v1, v2] := by cases args; simp_all
  have lt0 : ∀ x ∈ p0, x.block < W.heap.size := by obtain ⟨m, hm⟩ := h0; exact DataW.trod_lt m _ _ _ hm
  have lt1 : ∀ x ∈ p1, x.block < W.heap.size := by obtain ⟨m, hm⟩ := h1; exact DataW.trod_lt m _ _ _ hm
  obtain ⟨rfl, rfl⟩ := trodVars_none hV
  obtain ⟨A0, n0, c0, zs0, rfl, hB0, hc0, hcm0⟩ := open_islice Try.underlying25 Try.underlying3 (by kernel_rfl) (hval 0 25 v0 rfl rfl) h0
  obtain ⟨A1, n1, c1, zs1, rfl, hB1, hc1, hcm1⟩ := open_islice Try.underlying25 Try.underlying3 (by kernel_rfl) (hval 1 25 v1 rfl rfl) h1
  obtain ⟨a2, rfl, rfl, rfl, w2⟩ := open_int Try.underlying3 (hval 2 3 v2 rfl rfl) h2
  have hm2 := bounds_i64 w2
  clear hA0 hval0
  refine (walk A0 n0 c0 zs0 A1 n1 c1 zs1 a2 W hB0 hB1 (by omega) (by omega)).mono fun e W' ⟨he, bel⟩ => ?_
  subst he
  exact ⟨_, rfl, _, _, _, [], _, [], hW', trodAll_mk1 (shut_bool Try.underlying4 _), (trodAll_cons_mk (Below.trod laidOut (by kernel_rfl) (of_decide_eq_true (by kernel_rfl)) h0 bel lt0) (trodAll_cons_mk (Below.trod laidOut (by kernel_rfl) (of_decide_eq_true (by kernel_rfl)) h1 bel lt1) (trodAll_cons_mk (shut_int Try.underlying3 w2) trodAll_mk0))), rfl, bel.frame _, fun h => by cases h⟩

theorem over : Rows.levelNoneRow.holds Try.pinned (OpenSpec.ofChange Rows.levelNoneSpec) :=
  OpenClaim.holds_of_wide 6 Try.f6 rfl rfl rfl rfl rfl rfl rfl ⟨rfl, rfl, rfl, rfl, rfl⟩ rfl rfl rfl rfl rfl (by kernel_rfl) Try.func6 (by kernel_rfl)
    (of_decide_eq_true (by kernel_rfl)) (by unfold Func.isWrapper; first | (rw [if_pos (by decide +kernel)]; kernel_rfl) | (rw [if_neg (by decide +kernel)]; exact ⟨rfl, rfl⟩))
    (fun os started H enc _ => lifted os started H enc)
end Go.Proofs.Ytmiildmcebiicaa.levelNone

namespace Go.Proofs.Ytmiildmcebiicaa
theorem levelNone_holds : Rows.LevelNoneSaid := levelNone.over
#print axioms levelNone_holds
end Go.Proofs.Ytmiildmcebiicaa
