/- The laws' own small case: 'awake' answers true. -/
import Derived.Test.YtffcbfkdmenedaaGet
import Derived.Test.YtffcbfkdmenedaaPut
import Derived.Test.YtffcbfkdmenedaaSum
namespace Go.Proofs.Ytffcbfkdmenedaa
open Go.RowKit
open Pl

theorem Blk.new (w : World) (t : TypeId) (xs : List Nat) (g : Nat) (hg : w.heap.size = g) : Blk (w.alloc (.cells (u8s xs).toArray t)) g t xs := by
  subst hg
  exact heap_alloc_new w _

set_option maxHeartbeats 1000000 in
theorem awake_any (w : World) : Calls Try.prog 6 #[] w fun e w' => e = .returned (.bool true) ∧ Below w.heap.size w w' := by
  have k1 := Lib.hid (((Blk.new w 5 [1, 2] _ rfl).bs (by decide) 2 rfl))
  have k2 := Lib.hid (((Blk.new (w.alloc (.cells (u8s [1, 2]).toArray 5)) 5 [1, 2] (w.heap.size + 1) (by simp)).bs (by decide) 2 rfl))
  have k3 := Lib.hid (((Blk.new ((w.alloc (.cells (u8s [1, 2]).toArray 5)).alloc (.cells (u8s [1, 2]).toArray 5)) 5 [9, 9, 9] (w.heap.size + 1 + 1) (by simp)).bs (by decide) 3 rfl))
  have b3 := Lib.hid (show Below w.heap.size w (((w.alloc (.cells (u8s [1, 2]).toArray 5)).alloc (.cells (u8s [1, 2]).toArray 5)).alloc (.cells (u8s [9, 9, 9]).toArray 5)) from
    (((Below.refl _ _).alloc (Nat.le_refl _) _).alloc (by simp) _).alloc (by simp; omega) _)
  have v1 := Lib.hid (show getN [1, 2] 0 2 false = 513 from rfl)
  have v2 := Lib.hid (show getN [1, 2] 0 2 true = 258 from rfl)
  have v3 := Lib.hid (show putL [9, 9, 9] 1 2 true 258 2 = [9, 1, 2] from rfl)
  have v4 := Lib.hid (show timesV 3 4 = 12 from rfl)
  have v5 := Lib.hid (show timesE 3 4 = 0 from rfl)
  have v6 := Lib.hid (show sumV 3 4 = 7 from rfl)
  have v7 := Lib.hid (show sumE 3 4 = 0 from rfl)
  go_enter Try.func6, Try.ntmps6
  go_wp2_with fail
  refine (get_ok _ 2 2 0 2 false [1, 2] _ _ k1.out (by omega) (by omega) (by omega) (by omega) (by omega)).mono ?_
  rintro e w' ⟨rfl, rfl⟩
  rw [v1.out]
  go_wp2_with fail
  refine (get_ok _ 2 2 0 2 true [1, 2] _ _ k2.out (by omega) (by omega) (by omega) (by omega) (by omega)).mono ?_
  rintro e w' ⟨rfl, rfl⟩
  rw [v2.out]
  go_wp2_with fail
  refine (put_ok _ 3 3 1 2 258 true [9, 9, 9] _ k3.out (by omega) (by omega) (by omega) (by omega) (by omega)).mono ?_
  rintro e w1 ⟨g, rfl, hg, hblk, hbel⟩
  rw [v3.out] at hblk
  have hc0 := hblk.cell 0 (by decide)
  have hc1 := hblk.cell 1 (by decide)
  have hB := Lib.hid (b3.out.trans (hbel.mono (by simp; omega)))
  clear hblk hbel hg k1 k2 k3 b3
  go_wp2_with (first
    | (go_at_call 16; refine (times_any 3 4 _ (by omega) (by omega) (by omega) (by omega)).mono ?_; rw [v4.out, v5.out]; rintro e w' ⟨rfl, rfl⟩)
    | (go_at_call 14; refine (sum_any 3 4 _ (by omega) (by omega) (by omega) (by omega)).mono ?_; rw [v6.out, v7.out]; rintro e w' ⟨rfl, rfl⟩))
  go_ret
  exact ⟨rfl, hB.out⟩
end Go.Proofs.Ytffcbfkdmenedaa
