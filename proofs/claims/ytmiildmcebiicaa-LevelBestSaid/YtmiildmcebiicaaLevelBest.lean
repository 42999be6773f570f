/- LevelBest: the best of any numbers for any, and how far any two tiles are apart: the program's are the reference's; no condition. -/
import Derived.Test.YtmiildmcebiicaaRows
import Derived.Test.YtmiildmcebiicaaLvAwake
import Derived.Test.YtmiildmcebiicaaOpenArr
import Derived.OpenShut
import Derived.ShutString
import Derived.ChangeOld
import Derived.Below
import Derived.Test.YtmiildmcebiicaaHeld
namespace Go.Proofs.Ytmiildmcebiicaa.levelBest
open Go.ChangeShapes Go.WideShapes Go.ChangeAt Go.RowKit
open Lv

/-- What the law knows of its arguments while it runs. -/
structure Kn (w : World) (A : Option Addr) (n c : Nat) (vs : List Int) (A' : Option Addr) (n' c' : Nat) (ls zs : List Int) (u : World) : Prop where
  bel : Below w.heap.size w u
  i1 : Is u u.heap.size A n vs
  i2 : Is u u.heap.size A' n' ls
  r1 : Row u w.heap.size 29 [.slice A n c, .slice A' n' c']
  r2 : Row u (w.heap.size + 1) 34 (i64s zs)
theorem Kn.step {w : World} {A : Option Addr} {n c : Nat} {vs : List Int} {A' : Option Addr} {n' c' : Nat} {ls zs : List Int} {u u' : World} (h : Kn w A n c vs A' n' c' ls zs u) (hb : Below u.heap.size u u') : Kn w A n c vs A' n' c' ls zs u' :=
  ⟨h.bel.trans (hb.mono h.bel.size), h.i1.later hb, h.i2.later hb, h.r1.below hb h.r1.lt, h.r2.below hb h.r2.lt⟩

theorem Kn.ready {w : World} {A : Option Addr} {n c : Nat} {vs : List Int} {A' : Option Addr} {n' c' : Nat} {ls zs : List Int} {u : World} (h : Kn w A n c vs A' n' c' ls zs u) : u.cell? ⟨w.heap.size, 0, none⟩ = some (.slice A n c) ∧ u.cell? ⟨w.heap.size, 1, none⟩ = some (.slice A' n' c') ∧ u.rangeAt (w.heap.size + 1) 0 (i64s (zs.take 64)) ∧ u.rangeAt (w.heap.size + 1) 64 (i64s ((zs.drop 64).take 64)) ∧ Hid (Kn w A n c vs A' n' c' ls zs u) :=
  ⟨h.r1.cell 0 _ rfl, h.r1.cell 1 _ rfl, h.r2.range 0 64, h.r2.range 64 64, h⟩
theorem Kn.drew {w : World} {A : Option Addr} {n c : Nat} {vs : List Int} {A' : Option Addr} {n' c' : Nat} {ls zs : List Int} {u : World} (h : Kn w A n c vs A' n' c' ls zs u) : Kn w A n c vs A' n' c' ls zs u.drew :=
  h.step ⟨rfl, rfl, rfl, Nat.le_refl _, fun _ _ => rfl⟩

set_option maxHeartbeats 4000000 in
set_option maxRecDepth 100000 in
theorem walk (A : Option Addr) (n c : Nat) (vs : List Int) (A' : Option Addr) (n' c' : Nat) (ls zs : List Int) (mask : Int) (w : World) (h : Is w w.heap.size A n vs) (h' : Is w w.heap.size A' n' ls) (hn : n ≤ 9223372036854775807) (hn' : n' ≤ 9223372036854775807) (hz : zs.length = 2 * (16 * (4 * 1))) :
    Calls Try.prog 4 #[.agg #[.slice A n c, .slice A' n' c'], arr zs, .int .i64 mask] w fun e w' => e = .returned (.bool true) ∧ Below w.heap.size w w' := by
  have hz : zs.length = 128 := hz
  have K0 := Lib.hid (show Kn w A n c vs A' n' c' ls zs ((w.alloc (.cells #[.slice A n c, .slice A' n' c'] 29)).alloc (.cells (i64s zs).toArray 34)) from by
    have b1 := (Below.refl w.heap.size w).alloc (Nat.le_refl _) (.cells #[.slice A n c, .slice A' n' c'] 29)
    have b2 := b1.alloc (by simp) (.cells (i64s zs).toArray 34)
    refine ⟨b2, h.later b2, h'.later b2, (Row.new w 29 [.slice A n c, .slice A' n' c']).old _, ?_⟩
    have := Row.newInts (w.alloc (.cells #[.slice A n c, .slice A' n' c'] 29)) 34 zs
    rwa [World.size_alloc] at this)
  clear h h'
  have HZ := Lib.hid hz
  clear hz
  go_enter Try.func4, Try.ntmps4
  go_wp2_with fail
  refine (awake_any _).mono ?_
  rintro e w1 ⟨rfl, hb1⟩
  have K1 := Lib.hid (K0.out.step hb1)
  have k0 : w1.cell? ⟨w.heap.size, 0, none⟩ = some (.slice A n c) := K1.out.r1.cell 0 _ rfl
  have k1 : w1.cell? ⟨w.heap.size, 1, none⟩ = some (.slice A' n' c') := K1.out.r1.cell 1 _ rfl
  clear K0 hb1
  have S1 := Lib.hid (fun (_ : Unit) => smalls_any A n c vs _ _ K1.out.i1 hn)
  have S2 := Lib.hid (fun (_ : Unit) => smalls_any A' n' c' ls _ _ K1.out.i2 hn')
  have S3 := Lib.hid (fun w => small_any mask w)
  by_cases s1 : smB vs = true
  · rw [s1] at S1
    by_cases s2 : smB ls = true
    · rw [s2] at S2
      by_cases s3 : decide (-1048576 ≤ mask ∧ mask ≤ 1048576) = true
      · rw [s3] at S3
        obtain ⟨a1, l1⟩ := smB_all s1
        obtain ⟨a2, l2⟩ := smB_all s2
        rw [K1.out.i1.length] at l1
        rw [K1.out.i2.length] at l2
        have A1 := Lib.hid a1
        have A2 := Lib.hid a2
        clear a1 a2 s1 s2 s3
        go_wp2_with (first
          | (go_at_call 8; (first | (with_reducible refine (S1.out ()).mono ?_) | (with_reducible refine (S2.out ()).mono ?_)); rintro e w' ⟨rfl, rfl⟩)
          | (go_at_call 17; refine (S3.out _).mono ?_; rintro e w' ⟨rfl, rfl⟩))
        go_loop [10, 11] (fun i _ => ∃ k : Nat, k ≤ 16 ∧ i = .int .i64 k ∧ Hid (∀ j, j < 4 * k → sm (zs.getD j 0) ∧ sm (zs.getD (64 + j) 0))) (fun i _ => 16 - (intOf i).toNat)
        case atStart => exact ⟨0, by omega, rfl, fun j hj => absurd hj (by omega)⟩
        case round =>
          obtain ⟨k, hk, rfl, hI⟩ := hrel
          by_cases hlt : k < 16
          · go_wp2_with fail
            try rw [show decide ((k : Int) < 16) = true from by simp; omega]
            go_loop [11] (fun i => ∃ d : Nat, d ≤ 4 ∧ i = .int .i64 d ∧ Hid (∀ j, j < 4 * k + d → sm (zs.getD j 0) ∧ sm (zs.getD (64 + j) 0))) (fun i => 4 - (intOf i).toNat)
            case atStart => exact ⟨0, by omega, rfl, hI⟩
            case round =>
              clear hI
              obtain ⟨d, hd, rfl, hI⟩ := hrel
              by_cases hd4 : d < 4
              · have hcx := K1.out.r2.int (k * 4 + d) (by rw [HZ.out]; omega)
                have hcy := K1.out.r2.int (64 + k * 4 + d) (by rw [HZ.out]; omega)
                have hnext := Lib.hid (show sm (zs.getD (k * 4 + d) 0) → sm (zs.getD (64 + k * 4 + d) 0) → ∀ j, j < 4 * k + (d + 1) → sm (zs.getD j 0) ∧ sm (zs.getD (64 + j) 0) from by
                  intro hx hy j hj
                  rcases Nat.lt_or_ge j (4 * k + d) with h | h
                  · exact hI.out j h
                  · obtain rfl : j = k * 4 + d := by omega
                    rw [show 64 + (k * 4 + d) = 64 + k * 4 + d from by omega]
                    exact ⟨hx, hy⟩)
                generalize zs.getD (k * 4 + d) 0 = x at *
                generalize zs.getD (64 + k * 4 + d) 0 = y at *
                have X := Lib.hid (fun w => small_any x w)
                have Y := Lib.hid (fun w => small_any y w)
                by_cases hx : decide (-1048576 ≤ x ∧ x ≤ 1048576) = true
                · rw [hx] at X
                  by_cases hy : decide (-1048576 ≤ y ∧ y ≤ 1048576) = true
                  · rw [hy] at Y
                    have hN := Lib.hid (hnext.out (of_decide_eq_true (p := -1048576 ≤ x ∧ x ≤ 1048576) hx) (of_decide_eq_true (p := -1048576 ≤ y ∧ y ≤ 1048576) hy))
                    clear hnext hx hy
                    go_wp2_with (go_at_call 17; (first | (with_reducible refine (X.out _).mono ?_) | (with_reducible refine (Y.out _).mono ?_)); rintro e w' ⟨rfl, rfl⟩)
                    go_round
                    case rel => exact ⟨d + 1, by omega, by go_num, hN⟩
                    case measure => simp [intOf]; omega
                  · have hy' : decide (-1048576 ≤ y ∧ y ≤ 1048576) = false := by simpa using hy
                    rw [hy'] at Y
                    clear hnext hx hy hy'
                    go_wp2_with (go_at_call 17; (first | (with_reducible refine (X.out _).mono ?_) | (with_reducible refine (Y.out _).mono ?_)); rintro e w' ⟨rfl, rfl⟩)
                    go_ret
                    exact ⟨rfl, K1.out.bel⟩
                · have hx' : decide (-1048576 ≤ x ∧ x ≤ 1048576) = false := by simpa using hx
                  rw [hx'] at X
                  clear hnext hx hx'
                  go_wp2_with (go_at_call 17; (first | (with_reducible refine (X.out _).mono ?_) | (with_reducible refine (Y.out _).mono ?_)); rintro e w' ⟨rfl, rfl⟩)
                  go_ret
                  exact ⟨rfl, K1.out.bel⟩
              · obtain rfl : d = 4 := by omega
                go_wp2_with fail
                go_round
                case rel => exact ⟨k + 1, by omega, by go_num, hI⟩
                case measure => simp [intOf]; omega
          · obtain rfl : k = 16 := by omega
            have hall := Lib.hid (show (∀ z ∈ zs.take 64, sm z) ∧ (∀ z ∈ (zs.drop 64).take 64, sm z) from by
              constructor
              · intro z hz
                obtain ⟨j, hj, rfl⟩ := List.getElem_of_mem hz
                have hj' : j < 64 := by rw [List.length_take] at hj; omega
                have := (hI.out j (by omega)).1
                rw [List.getElem_take]
                simpa [List.getElem?_eq_getElem (show j < zs.length by rw [HZ.out]; omega)] using this
              · intro z hz
                obtain ⟨j, hj, rfl⟩ := List.getElem_of_mem hz
                have hj' : j < 64 := by rw [List.length_take] at hj; omega
                have := (hI.out j (by omega)).2
                rw [List.getElem_take, List.getElem_drop]
                simpa [List.getElem?_eq_getElem (show 64 + j < zs.length by rw [HZ.out]; omega)] using this)
            have hl0 := Lib.hid (show (zs.take 64).length = 64 from by rw [List.length_take, HZ.out]; omega)
            have hl1 := Lib.hid (show ((zs.drop 64).take 64).length = 64 from by rw [List.length_take, List.length_drop, HZ.out]; omega)
            have hB := Lib.hid (show ∀ u : World, u.cell? ⟨w.heap.size, 0, none⟩ = some (.slice A n c) ∧ u.cell? ⟨w.heap.size, 1, none⟩ = some (.slice A' n' c') ∧ u.rangeAt (w.heap.size + 1) 0 (i64s (zs.take 64)) ∧ u.rangeAt (w.heap.size + 1) 64 (i64s ((zs.drop 64).take 64)) ∧ Hid (Kn w A n c vs A' n' c' ls zs u) → Calls Try.prog 18 #[.slice A n c, .slice A' n' c'] u fun e u' => e = .returned (.int .i64 (bestV vs ls : Int)) ∧ u'.cell? ⟨w.heap.size, 0, none⟩ = some (.slice A n c) ∧ u'.cell? ⟨w.heap.size, 1, none⟩ = some (.slice A' n' c') ∧ u'.rangeAt (w.heap.size + 1) 0 (i64s (zs.take 64)) ∧ u'.rangeAt (w.heap.size + 1) 64 (i64s ((zs.drop 64).take 64)) ∧ Hid (Kn w A n c vs A' n' c' ls zs u') from by
              intro u ⟨_, _, _, _, hK⟩
              refine (best_any A A' n c n' c' vs ls u hK.out.i1 hK.out.i2 A1.out A2.out (by omega) (by omega)).mono ?_
              rintro e u' ⟨rfl, hb⟩
              exact ⟨rfl, (hK.out.step hb).ready⟩)
            have hB2 := Lib.hid (show ∀ u : World, u.cell? ⟨w.heap.size, 0, none⟩ = some (.slice A n c) ∧ u.cell? ⟨w.heap.size, 1, none⟩ = some (.slice A' n' c') ∧ u.rangeAt (w.heap.size + 1) 0 (i64s (zs.take 64)) ∧ u.rangeAt (w.heap.size + 1) 64 (i64s ((zs.drop 64).take 64)) ∧ Hid (Kn w A n c vs A' n' c' ls zs u) → Calls Try.prog 19 #[.slice A n c, .slice A' n' c'] u fun e u' => e = .returned (.int .i64 (bestV vs ls : Int)) ∧ u'.cell? ⟨w.heap.size, 0, none⟩ = some (.slice A n c) ∧ u'.cell? ⟨w.heap.size, 1, none⟩ = some (.slice A' n' c') ∧ u'.rangeAt (w.heap.size + 1) 0 (i64s (zs.take 64)) ∧ u'.rangeAt (w.heap.size + 1) 64 (i64s ((zs.drop 64).take 64)) ∧ Hid (Kn w A n c vs A' n' c' ls zs u') from by
              intro u ⟨_, _, _, _, hK⟩
              refine (rbest_any A A' n c n' c' vs ls u hK.out.i1 hK.out.i2 A1.out A2.out (by omega) (by omega)).mono ?_
              rintro e u' ⟨rfl, hb⟩
              exact ⟨rfl, (hK.out.step hb).ready⟩)
            have hE := Lib.hid (show ∀ u : World, u.cell? ⟨w.heap.size, 0, none⟩ = some (.slice A n c) ∧ u.cell? ⟨w.heap.size, 1, none⟩ = some (.slice A' n' c') ∧ u.rangeAt (w.heap.size + 1) 0 (i64s (zs.take 64)) ∧ u.rangeAt (w.heap.size + 1) 64 (i64s ((zs.drop 64).take 64)) ∧ Hid (Kn w A n c vs A' n' c' ls zs u) → Calls Try.prog 20 #[.agg (i64s (zs.take 64)).toArray, .agg (i64s ((zs.drop 64).take 64)).toArray, .int .i64 mask] u fun e u' => e = .returned (.int .i64 (errV (zs.take 64) ((zs.drop 64).take 64) mask)) ∧ u'.cell? ⟨w.heap.size, 0, none⟩ = some (.slice A n c) ∧ u'.cell? ⟨w.heap.size, 1, none⟩ = some (.slice A' n' c') ∧ u'.rangeAt (w.heap.size + 1) 0 (i64s (zs.take 64)) ∧ u'.rangeAt (w.heap.size + 1) 64 (i64s ((zs.drop 64).take 64)) ∧ Hid (Kn w A n c vs A' n' c' ls zs u') from by
              intro u ⟨_, _, _, _, hK⟩
              refine (error_any _ _ mask u hall.out.1 hall.out.2 hl0.out hl1.out).mono ?_
              rintro e u' ⟨rfl, hb⟩
              exact ⟨rfl, (hK.out.step hb).ready⟩)
            have hE2 := Lib.hid (show ∀ u : World, u.cell? ⟨w.heap.size, 0, none⟩ = some (.slice A n c) ∧ u.cell? ⟨w.heap.size, 1, none⟩ = some (.slice A' n' c') ∧ u.rangeAt (w.heap.size + 1) 0 (i64s (zs.take 64)) ∧ u.rangeAt (w.heap.size + 1) 64 (i64s ((zs.drop 64).take 64)) ∧ Hid (Kn w A n c vs A' n' c' ls zs u) → Calls Try.prog 21 #[.agg (i64s (zs.take 64)).toArray, .agg (i64s ((zs.drop 64).take 64)).toArray, .int .i64 mask] u fun e u' => e = .returned (.int .i64 (errV (zs.take 64) ((zs.drop 64).take 64) mask)) ∧ u'.cell? ⟨w.heap.size, 0, none⟩ = some (.slice A n c) ∧ u'.cell? ⟨w.heap.size, 1, none⟩ = some (.slice A' n' c') ∧ u'.rangeAt (w.heap.size + 1) 0 (i64s (zs.take 64)) ∧ u'.rangeAt (w.heap.size + 1) 64 (i64s ((zs.drop 64).take 64)) ∧ Hid (Kn w A n c vs A' n' c' ls zs u') from by
              intro u ⟨_, _, _, _, hK⟩
              refine (rerror_any _ _ mask u hall.out.1 hall.out.2 hl0.out hl1.out).mono ?_
              rintro e u' ⟨rfl, hb⟩
              exact ⟨rfl, (hK.out.step hb).ready⟩)
            have R := Lib.hid (K1.out.drew.ready)
            have hu := Try.underlying33
            have hi0 : (Try.prog.info? 33).map (·.size) = some (i64s (zs.take 64)).length := by rw [i64s_length, hl0.out]; exact size_tile
            have hi1 : (Try.prog.info? 33).map (·.size) = some (i64s ((zs.drop 64).take 64)).length := by rw [i64s_length, hl1.out]; exact size_tile
            clear hall hl0 hl1 hI k0 k1
            generalize errV (zs.take 64) ((zs.drop 64).take 64) mask = E at *
            generalize bestV vs ls = Bv at *
            generalize i64s (zs.take 64) = t0 at *
            generalize i64s ((zs.drop 64).take 64) = t1 at *
            go_wp2_with fail
            refine wp_region_held_drew (S := fun u => u.cell? ⟨w.heap.size, 0, none⟩ = some (.slice A n c) ∧ u.cell? ⟨w.heap.size, 1, none⟩ = some (.slice A' n' c') ∧ u.rangeAt (w.heap.size + 1) 0 t0 ∧ u.rangeAt (w.heap.size + 1) 64 t1 ∧ Hid (Kn w A n c vs A' n' c' ls zs u)) (by kernel_rfl) R.out (fun kS => ?_)
            refine takeL (i := 0) (v := _) rfl (by kernel_rfl) (by kernel_rfl) (by kernel_rfl) (fun _ _ _ h => h) (Or.inl ⟨by rfl, (by intro u hSu; (try dsimp only at hSu); go_simp; try with_reducible rfl)⟩) kS ?_
            try simp only [Act.put, List.setIfInBounds_toArray, List.set_cons_zero, List.set_cons_succ]
            refine takeL (i := 1) (v := _) rfl (by kernel_rfl) (by kernel_rfl) (by kernel_rfl) (fun _ _ _ h => h) (Or.inl ⟨by rfl, (by intro u hSu; (try dsimp only at hSu); go_simp; try with_reducible rfl)⟩) kS ?_
            try simp only [Act.put, List.setIfInBounds_toArray, List.set_cons_zero, List.set_cons_succ]
            refine takeL (i := 2) (v := _) rfl (by kernel_rfl) (by kernel_rfl) (by kernel_rfl) (fun _ _ _ h => h) (Or.inl ⟨by rfl, (by intro u hSu; (try dsimp only at hSu); go_simp; try with_reducible rfl)⟩) kS ?_
            try simp only [Act.put, List.setIfInBounds_toArray, List.set_cons_zero, List.set_cons_succ]
            refine takeL (i := 3) (v := _) rfl (by kernel_rfl) (by kernel_rfl) (by kernel_rfl) (fun _ _ _ h => h) (Or.inl ⟨by rfl, (by intro u hSu; (try dsimp only at hSu); go_simp; try with_reducible rfl)⟩) kS ?_
            try simp only [Act.put, List.setIfInBounds_toArray, List.set_cons_zero, List.set_cons_succ]
            refine takeL (i := 4) (v := _) rfl (by kernel_rfl) (by kernel_rfl) (by kernel_rfl) (fun _ _ _ h => h) (Or.inl ⟨by rfl, (by intro u hSu; (try dsimp only at hSu); go_simp; try with_reducible rfl)⟩) kS ?_
            try simp only [Act.put, List.setIfInBounds_toArray, List.set_cons_zero, List.set_cons_succ]
            refine takeL (i := 5) (v := _) rfl (by kernel_rfl) (by kernel_rfl) (by kernel_rfl) (fun _ _ _ h => h) (Or.inl ⟨by rfl, (by intro u hSu; (try dsimp only at hSu); go_simp; try with_reducible rfl)⟩) kS ?_
            try simp only [Act.put, List.setIfInBounds_toArray, List.set_cons_zero, List.set_cons_succ]
            refine takeL (i := 7) (v := _) rfl (by kernel_rfl) (by kernel_rfl) (by kernel_rfl) (fun _ _ _ h => h) (Or.inl ⟨by rfl, (by intro u hSu; (try dsimp only at hSu); go_simp; try with_reducible rfl)⟩) kS ?_
            try simp only [Act.put, List.setIfInBounds_toArray, List.set_cons_zero, List.set_cons_succ]
            refine takeL (i := 8) (v := _) rfl (by kernel_rfl) (by kernel_rfl) (by kernel_rfl) (fun _ _ _ h => h) (Or.inl ⟨by rfl, (by intro u hSu; (try dsimp only at hSu); go_simp; try with_reducible rfl)⟩) kS ?_
            try simp only [Act.put, List.setIfInBounds_toArray, List.set_cons_zero, List.set_cons_succ]
            refine takeL (i := 9) (v := _) rfl (by kernel_rfl) (by kernel_rfl) (by kernel_rfl) (fun _ _ _ h => h) (Or.inl ⟨by rfl, (by intro u hSu; (try dsimp only at hSu); go_simp; try with_reducible rfl)⟩) kS ?_
            try simp only [Act.put, List.setIfInBounds_toArray, List.set_cons_zero, List.set_cons_succ]
            refine takeL (i := 10) (v := _) rfl (by kernel_rfl) (by kernel_rfl) (by kernel_rfl) (fun _ _ _ h => h) (Or.inl ⟨by rfl, (by intro u hSu; (try dsimp only at hSu); go_simp; try with_reducible rfl)⟩) kS ?_
            try simp only [Act.put, List.setIfInBounds_toArray, List.set_cons_zero, List.set_cons_succ]
            refine callL (i := 6) rfl (by kernel_rfl) (fun K hK => ?_)
            go_simp
            refine (hB.out _ kS).mono ?_
            clear kS
            rintro e w3 ⟨rfl, kS⟩
            go_wp2_with fail
            refine hK.out _ _ kS (fun _ => ?_)
            clear hK K
            try simp only [Act.put, List.setIfInBounds_toArray, List.set_cons_zero, List.set_cons_succ]
            refine callL (i := 11) rfl (by kernel_rfl) (fun K hK => ?_)
            go_simp
            refine (hB2.out _ kS).mono ?_
            clear kS
            rintro e w3 ⟨rfl, kS⟩
            go_wp2_with fail
            refine hK.out _ _ kS (fun _ => ?_)
            clear hK K
            try simp only [Act.put, List.setIfInBounds_toArray, List.set_cons_zero, List.set_cons_succ]
            refine takeL (i := 12) (v := _) rfl (by kernel_rfl) (by kernel_rfl) (by kernel_rfl) (fun _ _ _ h => h) (Or.inl ⟨by rfl, (by intro u hSu; (try dsimp only at hSu); go_simp; try with_reducible rfl)⟩) kS ?_
            try simp only [Act.put, List.setIfInBounds_toArray, List.set_cons_zero, List.set_cons_succ]
            refine takeL (i := 13) (v := _) rfl (by kernel_rfl) (by kernel_rfl) (by kernel_rfl) (fun _ _ _ h => h) (Or.inl ⟨by rfl, (by intro u hSu; (try dsimp only at hSu); go_simp; try with_reducible rfl)⟩) kS ?_
            try simp only [Act.put, List.setIfInBounds_toArray, List.set_cons_zero, List.set_cons_succ]
            refine takeL (i := 14) (v := _) rfl (by kernel_rfl) (by kernel_rfl) (by kernel_rfl) (fun _ _ _ h => h) (Or.inl ⟨by rfl, (by intro u hSu; (try dsimp only at hSu); go_simp; try with_reducible rfl)⟩) kS ?_
            try simp only [Act.put, List.setIfInBounds_toArray, List.set_cons_zero, List.set_cons_succ]
            refine takeL (i := 15) (v := _) rfl (by kernel_rfl) (by kernel_rfl) (by kernel_rfl) (fun _ _ _ h => h) (Or.inl ⟨by rfl, (by intro u hSu; (try dsimp only at hSu); go_simp; try with_reducible rfl)⟩) kS ?_
            try simp only [Act.put, List.setIfInBounds_toArray, List.set_cons_zero, List.set_cons_succ]
            refine takeL (i := 16) rfl (by kernel_rfl) (by kernel_rfl) (by kernel_rfl) (fun _ _ _ h => h) (yieldsIf_load_mid (by rfl) _ _ rfl _ _ rfl _ _ (fun u hu => hu.2.2.1) hu rfl hi0) kS ?_
            try simp only [Act.put, List.setIfInBounds_toArray, List.set_cons_zero, List.set_cons_succ]
            refine takeL (i := 17) (v := _) rfl (by kernel_rfl) (by kernel_rfl) (by kernel_rfl) (fun _ _ _ h => h) (Or.inl ⟨by rfl, (by intro u hSu; (try dsimp only at hSu); go_simp; try with_reducible rfl)⟩) kS ?_
            try simp only [Act.put, List.setIfInBounds_toArray, List.set_cons_zero, List.set_cons_succ]
            refine takeL (i := 18) rfl (by kernel_rfl) (by kernel_rfl) (by kernel_rfl) (fun _ _ _ h => h) (yieldsIf_load_mid (by rfl) _ _ rfl _ _ rfl _ _ (fun u hu => hu.2.2.2.1) hu rfl hi1) kS ?_
            try simp only [Act.put, List.setIfInBounds_toArray, List.set_cons_zero, List.set_cons_succ]
            refine takeL (i := 19) (v := _) rfl (by kernel_rfl) (by kernel_rfl) (by kernel_rfl) (fun _ _ _ h => h) (Or.inl ⟨by rfl, (by intro u hSu; (try dsimp only at hSu); go_simp; try with_reducible rfl)⟩) kS ?_
            try simp only [Act.put, List.setIfInBounds_toArray, List.set_cons_zero, List.set_cons_succ]
            refine takeL (i := 21) (v := _) rfl (by kernel_rfl) (by kernel_rfl) (by kernel_rfl) (fun _ _ _ h => h) (Or.inl ⟨by rfl, (by intro u hSu; (try dsimp only at hSu); go_simp; try with_reducible rfl)⟩) kS ?_
            try simp only [Act.put, List.setIfInBounds_toArray, List.set_cons_zero, List.set_cons_succ]
            refine takeL (i := 22) rfl (by kernel_rfl) (by kernel_rfl) (by kernel_rfl) (fun _ _ _ h => h) (yieldsIf_load_mid (by rfl) _ _ rfl _ _ rfl _ _ (fun u hu => hu.2.2.1) hu rfl hi0) kS ?_
            try simp only [Act.put, List.setIfInBounds_toArray, List.set_cons_zero, List.set_cons_succ]
            refine takeL (i := 23) (v := _) rfl (by kernel_rfl) (by kernel_rfl) (by kernel_rfl) (fun _ _ _ h => h) (Or.inl ⟨by rfl, (by intro u hSu; (try dsimp only at hSu); go_simp; try with_reducible rfl)⟩) kS ?_
            try simp only [Act.put, List.setIfInBounds_toArray, List.set_cons_zero, List.set_cons_succ]
            refine takeL (i := 24) rfl (by kernel_rfl) (by kernel_rfl) (by kernel_rfl) (fun _ _ _ h => h) (yieldsIf_load_mid (by rfl) _ _ rfl _ _ rfl _ _ (fun u hu => hu.2.2.2.1) hu rfl hi1) kS ?_
            try simp only [Act.put, List.setIfInBounds_toArray, List.set_cons_zero, List.set_cons_succ]
            refine takeL (i := 25) (v := _) rfl (by kernel_rfl) (by kernel_rfl) (by kernel_rfl) (fun _ _ _ h => h) (Or.inl ⟨by rfl, (by intro u hSu; (try dsimp only at hSu); go_simp; try with_reducible rfl)⟩) kS ?_
            try simp only [Act.put, List.setIfInBounds_toArray, List.set_cons_zero, List.set_cons_succ]
            refine callL (i := 20) rfl (by kernel_rfl) (fun K hK => ?_)
            go_simp
            refine (hE.out _ kS).mono ?_
            clear kS
            rintro e w3 ⟨rfl, kS⟩
            go_wp2_with fail
            refine hK.out _ _ kS (fun _ => ?_)
            clear hK K
            try simp only [Act.put, List.setIfInBounds_toArray, List.set_cons_zero, List.set_cons_succ]
            refine callL (i := 26) rfl (by kernel_rfl) (fun K hK => ?_)
            go_simp
            refine (hE2.out _ kS).mono ?_
            clear kS
            rintro e w3 ⟨rfl, kS⟩
            go_wp2_with fail
            refine hK.out _ _ kS (fun _ => ?_)
            clear hK K
            try simp only [Act.put, List.setIfInBounds_toArray, List.set_cons_zero, List.set_cons_succ]
            refine takeL (i := 27) (v := _) rfl (by kernel_rfl) (by kernel_rfl) (by kernel_rfl) (fun _ _ _ h => h) (Or.inl ⟨by rfl, (by intro u hSu; (try dsimp only at hSu); go_simp; try with_reducible rfl)⟩) kS ?_
            try simp only [Act.put, List.setIfInBounds_toArray, List.set_cons_zero, List.set_cons_succ]
            refine takeL (i := 28) (v := _) rfl (by kernel_rfl) (by kernel_rfl) (by kernel_rfl) (fun _ _ _ h => h) (Or.inl ⟨by rfl, (by intro u hSu; (try dsimp only at hSu); go_simp; try with_reducible rfl)⟩) kS ?_
            try simp only [Act.put, List.setIfInBounds_toArray, List.set_cons_zero, List.set_cons_succ]
            refine takeL (i := 29) (v := _) rfl (by kernel_rfl) (by kernel_rfl) (by kernel_rfl) (fun _ _ _ h => h) (Or.inl ⟨by rfl, (by intro u hSu; (try dsimp only at hSu); go_simp; try with_reducible rfl)⟩) kS ?_
            try simp only [Act.put, List.setIfInBounds_toArray, List.set_cons_zero, List.set_cons_succ]
            refine wpAnyH_done (by kernel_rfl) ?_ _
            go_wp2
            go_ret
            exact ⟨rfl, kS.2.2.2.2.out.bel⟩
      · have s3' : decide (-1048576 ≤ mask ∧ mask ≤ 1048576) = false := by simpa using s3
        rw [s3'] at S3
        clear s1 s2 s3 s3'
        go_wp2_with (first
          | (go_at_call 8; (first | (with_reducible refine (S1.out ()).mono ?_) | (with_reducible refine (S2.out ()).mono ?_)); rintro e w' ⟨rfl, rfl⟩)
          | (go_at_call 17; refine (S3.out _).mono ?_; rintro e w' ⟨rfl, rfl⟩))
        go_ret
        exact ⟨rfl, K1.out.bel⟩
    · have s2' : smB ls = false := by simpa using s2
      rw [s2'] at S2
      clear s1 s2 s2'
      go_wp2_with (first
        | (go_at_call 8; (first | (with_reducible refine (S1.out ()).mono ?_) | (with_reducible refine (S2.out ()).mono ?_)); rintro e w' ⟨rfl, rfl⟩)
        | (go_at_call 17; refine (S3.out _).mono ?_; rintro e w' ⟨rfl, rfl⟩))
      go_ret
      exact ⟨rfl, K1.out.bel⟩
  · have s1' : smB vs = false := by simpa using s1
    rw [s1'] at S1
    clear s1 s1'
    go_wp2_with (first
      | (go_at_call 8; (first | (with_reducible refine (S1.out ()).mono ?_) | (with_reducible refine (S2.out ()).mono ?_)); rintro e w' ⟨rfl, rfl⟩)
      | (go_at_call 17; refine (S3.out _).mono ?_; rintro e w' ⟨rfl, rfl⟩))
    all_goals
      go_ret
      exact ⟨rfl, K1.out.bel⟩


theorem own : ownKnob Try.prog.godebug = none := by kernel_rfl
theorem laidOut : laidOutB Try.prog = true := by kernel_rfl

set_option maxRecDepth 100000 in
theorem lifted (os : Os) (started : os.Started) (H : Type) (enc : TypeId × Value → H) :
    ReturnsInHanded {} Try.checked os 4 .any (Rows.levelBestSpec.pre6 enc Try.prog Try.f4 Rows.levelBestRow.domain false) (Rows.levelBestSpec.post enc Try.prog Try.f4 false true false false) := by
  refine returnsInHanded_of_change (C := Try.checked) own started (by kernel_rfl) Try.func4
    (ChangeSpec.witness6 (enc := enc) (C := Try.checked) false ⟨#[], #[.agg #[.slice none 0 0, .slice none 0 0], .agg #[.int .i64 0, .int .i64 0, .int .i64 0, .int .i64 0, .int .i64 0, .int .i64 0, .int .i64 0, .int .i64 0, .int .i64 0, .int .i64 0, .int .i64 0, .int .i64 0, .int .i64 0, .int .i64 0, .int .i64 0, .int .i64 0, .int .i64 0, .int .i64 0, .int .i64 0, .int .i64 0, .int .i64 0, .int .i64 0, .int .i64 0, .int .i64 0, .int .i64 0, .int .i64 0, .int .i64 0, .int .i64 0, .int .i64 0, .int .i64 0, .int .i64 0, .int .i64 0, .int .i64 0, .int .i64 0, .int .i64 0, .int .i64 0, .int .i64 0, .int .i64 0, .int .i64 0, .int .i64 0, .int .i64 0, .int .i64 0, .int .i64 0, .int .i64 0, .int .i64 0, .int .i64 0, .int .i64 0, .int .i64 0, .int .i64 0, .int .i64 0, .int .i64 0, .int .i64 0, .int .i64 0, .int .i64 0, .int .i64 0, .int .i64 0, .int .i64 0, .int .i64 0, .int .i64 0, .int .i64 0, .int .i64 0, .int .i64 0, .int .i64 0, .int .i64 0, .int .i64 0, .int .i64 0, .int .i64 0, .int .i64 0, .int .i64 0, .int .i64 0, .int .i64 0, .int .i64 0, .int .i64 0, .int .i64 0, .int .i64 0, .int .i64 0, .int .i64 0, .int .i64 0, .int .i64 0, .int .i64 0, .int .i64 0, .int .i64 0, .int .i64 0, .int .i64 0, .int .i64 0, .int .i64 0, .int .i64 0, .int .i64 0, .int .i64 0, .int .i64 0, .int .i64 0, .int .i64 0, .int .i64 0, .int .i64 0, .int .i64 0, .int .i64 0, .int .i64 0, .int .i64 0, .int .i64 0, .int .i64 0, .int .i64 0, .int .i64 0, .int .i64 0, .int .i64 0, .int .i64 0, .int .i64 0, .int .i64 0, .int .i64 0, .int .i64 0, .int .i64 0, .int .i64 0, .int .i64 0, .int .i64 0, .int .i64 0, .int .i64 0, .int .i64 0, .int .i64 0, .int .i64 0, .int .i64 0, .int .i64 0, .int .i64 0, .int .i64 0, .int .i64 0, .int .i64 0, .int .i64 0, .int .i64 0, .int .i64 0, .int .i64 0], .int .i64 0], []⟩ 8 (by kernel_rfl) (by kernel_rfl) (by kernel_rfl) (by kernel_rfl)) ?_
  intro W base args ds gs before hval0 hW hcnd _
  have hval : ∀ (j : Nat) t v, Try.f4.params[j]? = some t → args[j]? = some v → Value.okWide Try.prog W .any base t v := hval0
  have hW' := hW
  obtain ⟨p, q, hA0, hV, rfl, hfz, hnd⟩ := hW
  have hA : DataW.TrodAll enc Try.prog W 0 (fun _ => true) true Try.f4.params.toList args.toList ds p := hA0
  rw [Try.params4] at hA hval
  obtain ⟨v0, vs0, d0, ds0, p0, q0, hargs, rfl, rfl, h0, r0⟩ := trodAll_cons hA
  obtain ⟨v1, vs1, d1, ds1, p1, q1, rfl, rfl, rfl, h1, r1⟩ := trodAll_cons r0
  obtain ⟨v2, vs2, d2, ds2, p2, q2, rfl, rfl, rfl, h2, r2⟩ := trodAll_cons r1
  obtain ⟨rfl, rfl, rfl⟩ := trodAll_nil r2
  obtain rfl : args = #[v0, v1, v2] := by cases args; simp_all
  have lt0 : ∀ x ∈ p0, x.block < W.heap.size := by obtain ⟨m, hm⟩ := h0; exact DataW.trod_lt m _ _ _ hm
  have lt1 : ∀ x ∈ p1, x.block < W.heap.size := by obtain ⟨m, hm⟩ := h1; exact DataW.trod_lt m _ _ _ hm
  obtain ⟨rfl, rfl⟩ := trodVars_none hV
  obtain ⟨A0, n0, c0, zs0, A0', n0', c0', zs0', rfl, hB0, hB0', hn0, hn0'⟩ := open_2slices Try.underlying29 Try.underlying25 Try.underlying3 (by kernel_rfl) (by kernel_rfl) (by kernel_rfl) (hval 0 29 v0 rfl rfl) h0
  obtain ⟨zs1, rfl, hl1, hz1⟩ := open_flat Try.underlying34 (Flat.array (n := 2) (m := 64) Try.underlying34 (by kernel_rfl) (by omega) (Flat.array (n := 16) (m := 4) Try.underlying33 (by kernel_rfl) (by omega) (Flat.array (n := 4) (m := 1) Try.underlying31 (by kernel_rfl) (by omega) (Flat.int Try.underlying3 (by kernel_rfl))))) (hval 1 34 v1 rfl rfl) h1
  obtain ⟨a2, rfl, rfl, rfl, w2⟩ := open_int Try.underlying3 (hval 2 3 v2 rfl rfl) h2
  have hm2 := bounds_i64 w2
  clear hA0 hval0
  refine (walk A0 n0 c0 zs0 A0' n0' c0' zs0' zs1 a2 W hB0 hB0' hn0 hn0' hl1).mono fun e W' ⟨he, bel⟩ => ?_
  subst he
  exact ⟨_, rfl, _, _, _, [], _, [], hW', trodAll_mk1 (shut_bool Try.underlying4 _), (trodAll_cons_mk (Below.trod laidOut (by kernel_rfl) (of_decide_eq_true (by kernel_rfl)) h0 bel lt0) (trodAll_cons_mk (Below.trod laidOut (by kernel_rfl) (of_decide_eq_true (by kernel_rfl)) h1 bel lt1) (trodAll_cons_mk (shut_int Try.underlying3 w2) trodAll_mk0))), rfl, bel.frame _, fun h => by cases h⟩

theorem over : Rows.levelBestRow.holds Try.pinned (OpenSpec.ofChange Rows.levelBestSpec) :=
  OpenClaim.holds_of_wide 4 Try.f4 rfl rfl rfl rfl rfl rfl rfl ⟨rfl, rfl, rfl, rfl, rfl⟩ rfl rfl rfl rfl rfl (by kernel_rfl) Try.func4 (by kernel_rfl)
    (of_decide_eq_true (by kernel_rfl)) (by unfold Func.isWrapper; first | (rw [if_pos (by decide +kernel)]; kernel_rfl) | (rw [if_neg (by decide +kernel)]; exact ⟨rfl, rfl⟩))
    (fun os started H enc _ => lifted os started H enc)
end Go.Proofs.Ytmiildmcebiicaa.levelBest

namespace Go.Proofs.Ytmiildmcebiicaa
theorem levelBest_holds : Rows.LevelBestSaid := levelBest.over
#print axioms levelBest_holds
end Go.Proofs.Ytmiildmcebiicaa
