/- The search 'first', for a closure that only reads; the closure of Near, and Near. -/
import Derived.Test.YtfdlfhmkpkckdaaLvRef
import Derived.Test.YtfdlfhmkpkckdaaInts
import Derived.Deep.QuietTactic
import Derived.BigQuiet
namespace Go.Proofs.Ytfdlfhmkpkckdaa
open Go.RowKit
open Lv

/-- It answers v, and only draws. -/
def Tells (v : Value) (w : World) (e : Ending) (w' : World) : Prop := e = .returned v ∧ ∃ q, w' = w.drewN q
theorem Tells.below {v : Value} {w : World} {e : Ending} {w' : World} (h : Tells v w e w') : Below w.heap.size w w' := by
  obtain ⟨_, q, rfl⟩ := h
  exact ⟨rfl, rfl, rfl, Nat.le_refl _, fun _ _ => rfl⟩
theorem quiet_same {P : Program} {f : FuncId} {args : Array Value} {w : World} {n : Nat} {v : Value}
    (h : Calls P f args (w.drewN n) fun e w' => e = .returned v ∧ w.drewN n = w') : Calls P f args (w.drewN n) fun e w'' => e = .returned v ∧ ∃ m, w'' = w.drewN m :=
  h.mono fun _ _ ⟨he, hm⟩ => ⟨he, n, hm.symm⟩

set_option maxHeartbeats 1000000 in
theorem first_near (p1 p2 : Value) (m : Nat) (c : Nat → Int) (w : World) (hm : m ≤ 4611686018427387904)
    (hc : ∀ q i : Nat, i < m → Calls Try.prog 34 #[.int .i64 (i : Int), p1, p2] (w.drewN q) fun e w' => e = .returned (.int .i64 (c i)) ∧ ∃ r, w' = w.drewN r) :
    Calls Try.prog 33 #[.int .i64 (m : Int), .func (.func 34) #[] #[p1, p2]] w fun e w' => e = .returned (.int .i64 (argm c m : Int)) ∧ ∃ r, w' = w.drewN r := by
  have HC := Lib.hid hc
  clear hc
  go_enter Try.func33, Try.ntmps33
  go_wp2
  go_loopw [5, 6, 10] (fun b l i wr => ∃ k q : Nat, k ≤ m ∧ i = .int .i64 k ∧ b = .int .i64 (argm c k : Int) ∧ wr = w.drewN q ∧ ∃ z : Int, l = .int .i64 z ∧ Hid (0 < k → z = c (argm c k))) (fun _ _ i _ => m - (intOf i).toNat)
  case atStart => exact ⟨0, 0, Nat.zero_le _, rfl, rfl, rfl, 0, rfl, fun h => absurd h (by omega)⟩
  case round =>
    obtain ⟨k, q, hk, rfl, rfl, rfl, z, rfl, hz⟩ := hrel
    by_cases hlt : k < m
    · have HK := Lib.hid (HC.out q k hlt)
      have hs := Lib.hid (show argm c (k + 1) = if c k < c (argm c k) then k else argm c k from rfl)
      have hci := Lib.hid (show ∀ t, argm c (k + 1) = t → c (argm c (k + 1)) = c t from fun t h => by rw [h])
      by_cases h0 : k = 0
      · have hs' := Lib.hid (show argm c (k + 1) = k from by subst h0; simp [argm])
        have hz' := Lib.hid (hci.out _ hs'.out)
        clear hs hz hci
        subst h0
        generalize c 0 = C at *
        have HKw := HK.out
        go_wp2_with (go_at_call 34; refine HKw.mono ?_; rintro e w' ⟨rfl, r, rfl⟩)
        go_roundw
        case rel => exact ⟨0 + 1, _, by omega, by go_num, (by rw [hs'.out]; try rfl), rfl, _, rfl, fun _ => hz'.out.symm⟩
        case measure => simp [intOf]; omega
      · by_cases hcc : c k < c (argm c k)
        · have hs' := Lib.hid (hs.out.trans (if_pos hcc))
          have hz' := Lib.hid (hci.out _ hs'.out)
          obtain rfl := hz.out (by omega)
          clear hs hz hci
          have hke : ((k : Int) == 0) = false := by simp; omega
          generalize c (argm c k) = D at *
          generalize c k = C at *
          have HKw := HK.out
          go_wp2_with (go_at_call 34; refine HKw.mono ?_; rintro e w' ⟨rfl, r, rfl⟩)
          go_roundw
          case rel => exact ⟨k + 1, _, by omega, by go_num, (by rw [hs'.out]; try rfl), rfl, _, rfl, fun _ => hz'.out.symm⟩
          case measure => simp [intOf]; omega
        · have hs' := Lib.hid (hs.out.trans (if_neg hcc))
          have hz' := Lib.hid (hci.out _ hs'.out)
          obtain rfl := hz.out (by omega)
          clear hs hz hci
          have hke : ((k : Int) == 0) = false := by simp; omega
          generalize c (argm c k) = D at *
          generalize c k = C at *
          have HKw := HK.out
          go_wp2_with (go_at_call 34; refine HKw.mono ?_; rintro e w' ⟨rfl, r, rfl⟩)
          go_roundw
          case rel => exact ⟨k + 1, _, by omega, by go_num, (by rw [hs'.out]; try rfl), rfl, _, rfl, fun _ => hz'.out.symm⟩
          case measure => simp [intOf]; omega
    · obtain rfl : k = m := by omega
      go_wp2
      go_ret
      exact ⟨rfl, q, rfl⟩

end Go.Proofs.Ytfdlfhmkpkckdaa
