/- The laws' own small case: 'awake' answers true. -/
import Derived.Test.YtbjmmllnhanmpaaBitLows
import Derived.Test.YtbjmmllnhanmpaaEnv
namespace Go.Proofs.Ytbjmmllnhanmpaa
open Go.RowKit
open Bi

theorem Bs.fresh (w : World) (t : TypeId) (xs : List Nat) (n : Nat) (hn : xs.length = n) (hx : ∀ x ∈ xs, x < 256) : Bs (w.alloc (.cells (u8s xs).toArray t)) (w.alloc (.cells (u8s xs).toArray t)).heap.size (some ⟨w.heap.size, 0, none⟩) n xs :=
  (Blk.new' w t xs).bs hx n hn
/-- A block is made, and then what a call makes. -/
theorem Below.fresh {w w' : World} (o : Obj) (hb : Below (w.alloc o).heap.size (w.alloc o) w') : Below w.heap.size w w' :=
  ((Below.refl w.heap.size w).alloc (Nat.le_refl _) o).trans (hb.mono (by simp))

set_option maxHeartbeats 2000000 in
theorem awake_any (w : World) : Calls Try.prog 6 #[] w fun e w' => e = .returned (.bool true) ∧ Below w.heap.size w w' := by
  have v1 := Lib.hid (show getN [6] false 1 2 = 3 from by decide +kernel)
  have v2 := Lib.hid (show getN [6, 128] true 5 4 = 13 from by decide +kernel)
  have v3 := Lib.hid (show st [0, 0] true 7 2 3 = [1, 128] from by decide +kernel)
  have v4 := Lib.hid (show st [0, 0] false 7 2 3 = [128, 1] from by decide +kernel)
  have v5 := Lib.hid (show lowsL [228] 0 2 4 = [0, 1, 2, 3] from by decide +kernel)
  go_enter Try.func6, Try.ntmps6
  go_wp2_with fail
  refine (low_ok _ 1 1 1 2 [6] _ (Bs.fresh w 5 [6] 1 rfl (by decide)) (by omega) (by omega) (by omega)).mono ?_
  rw [v1.out]
  rintro e w1 ⟨rfl, hb1⟩
  have B1 := Lib.hid (Below.fresh _ hb1)
  clear hb1
  go_wp2_with fail
  refine (high_ok _ 2 2 5 4 [6, 128] _ (Bs.fresh w1 5 [6, 128] 2 rfl (by decide)) (by omega) (by omega) (by omega)).mono ?_
  rw [v2.out]
  rintro e w2 ⟨rfl, hb2⟩
  have B2 := Lib.hid (B1.out.trans ((Below.fresh _ hb2).mono B1.out.size))
  clear hb2 B1
  go_wp2_with fail
  refine (setHigh_ok _ 2 2 7 2 3 [0, 0] _ (Bs.fresh w2 5 [0, 0] 2 rfl (by decide)) (by omega) (by omega) (by omega) (by omega) (by decide +kernel)).mono ?_
  rw [v3.out]
  rintro e w3 ⟨A3, n3, c3, rfl, hs3, -, -, hb3⟩
  have B3 := Lib.hid (B2.out.trans ((Below.fresh _ hb3).mono B2.out.size))
  obtain rfl : n3 = 2 := hs3.1.symm
  have S3 := Lib.hid hs3
  clear hb3 B2 hs3
  go_wp2_with fail
  refine (setLow_ok _ 2 2 7 2 3 [0, 0] _ (Bs.fresh w3 5 [0, 0] 2 rfl (by decide)) (by omega) (by omega) (by omega) (by omega) (by decide +kernel)).mono ?_
  rw [v4.out]
  rintro e w4 ⟨A4, n4, c4, rfl, hs4, -, -, hb4⟩
  have B4 := Lib.hid (B3.out.trans ((Below.fresh _ hb4).mono B3.out.size))
  obtain rfl : n4 = 2 := hs4.1.symm
  have S3' := Lib.hid (S3.out.later (Below.fresh _ hb4))
  have S4 := Lib.hid hs4
  clear hb4 B3 hs4 S3
  go_wp2_with fail
  refine (lows_ok _ 1 1 0 2 4 [228] _ (Bs.fresh w4 5 [228] 1 rfl (by decide)) (by omega) (by omega) (by omega) (by omega)).mono ?_
  rw [v5.out]
  rintro e w5 ⟨A5, n5, c5, rfl, hs5, hb5⟩
  have B5 := Lib.hid (B4.out.trans ((Below.fresh _ hb5).mono B4.out.size))
  obtain rfl : n5 = 4 := hs5.1.symm
  have S3 := Lib.hid (S3'.out.later (Below.fresh _ hb5))
  have S4' := Lib.hid (S4.out.later (Below.fresh _ hb5))
  clear hb5 B4 S3' S4
  obtain ⟨b3, o3, rfl, -, hc3⟩ := S3.out.2.2 (by omega)
  obtain ⟨b4, o4, rfl, -, hc4⟩ := S4'.out.2.2 (by omega)
  obtain ⟨b5, o5, rfl, -, hc5⟩ := hs5.open (by omega)
  have k30 : w5.cell? ⟨b3, o3, none⟩ = some (.int .u8 1) := hc3 0 (by omega)
  have k31 : w5.cell? ⟨b3, o3 + 1, none⟩ = some (.int .u8 128) := hc3 1 (by omega)
  have k40 : w5.cell? ⟨b4, o4, none⟩ = some (.int .u8 128) := hc4 0 (by omega)
  have k41 : w5.cell? ⟨b4, o4 + 1, none⟩ = some (.int .u8 1) := hc4 1 (by omega)
  have k53 : w5.cell? ⟨b5, o5 + 3, none⟩ = some (.int .i64 3) := hc5 3 (by omega)
  clear hc3 hc4 hc5 hs5 S3 S4'
  go_wp2_with fail
  go_ret
  exact ⟨rfl, B5.out⟩
end Go.Proofs.Ytbjmmllnhanmpaa
