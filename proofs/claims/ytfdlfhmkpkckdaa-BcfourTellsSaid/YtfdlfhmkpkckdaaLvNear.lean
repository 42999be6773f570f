/- Near: its closure, then itself. -/
import Derived.Test.YtfdlfhmkpkckdaaLvFirst
import Derived.Below
import Derived.IntWalk
namespace Go.Proofs.Ytfdlfhmkpkckdaa
open Go.RowKit
open Lv

set_option maxHeartbeats 1000000 in
theorem near1_any (v bits n : Int) (B1 B2 : Nat) (w : World) (hn : sm n) (h1 : w.cell? ⟨B1, 0, none⟩ = some (.int .i64 bits)) (h2 : w.cell? ⟨B2, 0, none⟩ = some (.int .i64 n)) :
    Calls Try.prog 34 #[.int .i64 v, .pointer (some ⟨B1, 0, none⟩), .pointer (some ⟨B2, 0, none⟩)] w fun e w' => e = .returned (.int .i64 ((wideV v bits - n) * (wideV v bits - n))) ∧ ∃ r, w' = w.drewN r := by
  have hw := wideV_bd v bits
  have hA := Lib.hid (fun w => wide_any v bits w)
  generalize wideV v bits = W at *
  obtain ⟨n0, n1⟩ := hn
  have hS := Lib.hid (fun w => square_any (W - n) w (by omega) (by omega))
  have hd : IntKind.i64.wrap (W - n) = W - n := IntWalk.i64_in _ (by omega)
  clear n0 n1 hw
  go_enter Try.func34, Try.ntmps34
  go_wp2
  go_quiet (first
    | (go_at_call 23; exact quiet_same (hA.out _))
    | (go_at_call 35; exact quiet_same (hS.out _)))
  go_wp2
  go_ret
  exact ⟨rfl, _, rfl⟩

/-- Two boxes, one after the other. -/
theorem two_cells (w : World) (x y : Value) (t u : TypeId) : ((w.alloc (.cells #[x] t)).alloc (.cells #[y] u)).cell? ⟨w.heap.size, 0, none⟩ = some x ∧ ((w.alloc (.cells #[x] t)).alloc (.cells #[y] u)).cell? ⟨w.heap.size + 1, 0, none⟩ = some y := by
  constructor
  · have h : Row ((w.alloc (.cells #[x] t)).alloc (.cells #[y] u)) w.heap.size t [x] := (Below.heap_alloc _ _ _ (by simp)).trans (Row.new w t [x])
    exact h.cell 0 x rfl
  · have h := Row.new (w.alloc (.cells #[x] t)) u [y]
    rw [World.size_alloc] at h
    exact h.cell 0 y rfl
theorem two_below (w : World) (x y : Value) (t u : TypeId) (r : Nat) : Below w.heap.size w (((w.alloc (.cells #[x] t)).alloc (.cells #[y] u)).drewN r) :=
  (((Below.refl w.heap.size w).alloc (Nat.le_refl _) _).alloc (by simp) _).trans ⟨rfl, rfl, rfl, Nat.le_refl _, fun _ _ => rfl⟩

set_option maxHeartbeats 400000 in
theorem near_no (n bits : Int) (w : World) (hb : ¬ (1 ≤ bits ∧ bits ≤ 8)) :
    Calls Try.prog 20 #[.int .i64 n, .int .i64 bits] w fun e w' => e = .returned (.int .i64 (nearV n bits)) ∧ Below w.heap.size w w' := by
  rw [nearV_no hb]
  have hd := Lib.hid (show decide (1 ≤ bits ∧ bits ≤ 8) = false from by simpa using hb)
  clear hb
  go_enter Try.func20, Try.ntmps20
  go_wp2_with (go_at_call 32; refine (isWidth_any _ _).mono ?_; rw [hd.out]; rintro e w' ⟨rfl, rfl⟩)
  go_ret
  exact ⟨rfl, ((Below.refl w.heap.size w).alloc (Nat.le_refl _) _).alloc (by simp) _⟩

set_option maxHeartbeats 1000000 in
theorem near_ok (n : Int) (b : Nat) (w : World) (hb : 1 ≤ b) (hb8 : b ≤ 8) (hn : sm n) :
    Calls Try.prog 20 #[.int .i64 n, .int .i64 b] w fun e w' => e = .returned (.int .i64 (nearV n b)) ∧ Below w.heap.size w w' := by
  have hN := Lib.hid (show nearV n b = (argm (nearC n b) (2 ^ b) : Int) from by rw [nearV, if_pos (by omega)]; simp)
  have hp8 : 2 ^ b ≤ 2 ^ 8 := Nat.pow_le_pow_right (by omega) hb8
  have hM := Lib.hid (show wrap64 (2 ^ b) = ((2 ^ b : Nat) : Int) from by
    rw [show (2 : Int) ^ b = ((2 ^ b : Nat) : Int) from by simp]
    exact (fun (M : Nat) (h : M ≤ 2 ^ 8) => wrap64_small (M : Int) (by omega) (by omega)) _ hp8)
  have hd := Lib.hid (show decide (1 ≤ (b : Int) ∧ (b : Int) ≤ 8) = true from by simp; omega)
  have HN := Lib.hid hn
  clear hn
  go_enter Try.func20, Try.ntmps20
  go_wp2_with (first
    | (go_at_call 32; refine (isWidth_any _ _).mono ?_; rw [hd.out]; rintro e w' ⟨rfl, rfl⟩))
  rw [hM.out]
  refine (first_near _ _ (2 ^ b) (nearC n b) _ (by omega) ?_).mono ?_
  · intro q i hi
    refine (near1_any i b n (w.heap.size + 1) w.heap.size (((w.alloc (.cells #[.int .i64 n] 3)).alloc (.cells #[.int .i64 (b : Int)] 3)).drewN q) HN.out (two_cells w _ _ 3 3).2 (two_cells w _ _ 3 3).1).mono ?_
    rintro e w' ⟨rfl, r, rfl⟩
    exact ⟨rfl, _, World.drewN_drewN _ _ _⟩
  · rintro e w' ⟨rfl, r, rfl⟩
    go_wp2
    go_ret
    exact ⟨ret_int hN.out.symm, two_below w _ _ _ _ _⟩
theorem near_any (n bits : Int) (w : World) (hn : sm n) :
    Calls Try.prog 20 #[.int .i64 n, .int .i64 bits] w fun e w' => e = .returned (.int .i64 (nearV n bits)) ∧ Below w.heap.size w w' := by
  by_cases hb : 1 ≤ bits ∧ bits ≤ 8
  · obtain ⟨b, rfl⟩ := Int.eq_ofNat_of_zero_le (show 0 ≤ bits by omega)
    exact near_ok n b w (by omega) (by omega) hn
  · exact near_no n bits w hb
end Go.Proofs.Ytfdlfhmkpkckdaa
