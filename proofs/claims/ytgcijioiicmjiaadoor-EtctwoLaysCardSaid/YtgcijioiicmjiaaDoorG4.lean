/- BitSmall, BitCut, BitRead, BitWrite, BitApi: merged. -/
import Derived.Test.YtgcijioiicmjiaaDoorProg
import Derived.Test.YtgcijioiicmjiaaDoorG2
import Derived.Test.YtgcijioiicmjiaaDoorG1
import Derived.Deep.QuietTactic
import Derived.BigQuiet
import Derived.Laws.CopyOwn
import Derived.Deep.OwnRows
set_option linter.all false
namespace Go.Proofs.YtgcijioiicmjiaaDoor
open Go.RowKit
open Bi


set_option maxHeartbeats 400000 in
theorem place_any (i : Nat) (hi : Bool) (w : World) (h : i < 8) :
    Calls Tryd.prog 94 #[.int .i64 (i : Int), .bool hi] w fun e w' => e = .returned (.int .i64 ((pl i hi : Nat) : Int)) ∧ w = w' := by
  cases hi
  · have hS := Lib.hid (show ((pl i false : Nat) : Int) = (i : Int) from by simp [pl])
    go_enter Tryd.func94, Tryd.ntmps94
    go_wp2
    go_ret
    exact ⟨ret_int hS.out.symm, rfl⟩
  · have hS := Lib.hid (show ((pl i true : Nat) : Int) = 7 - (i : Int) from by simp [pl]; omega)
    go_enter Tryd.func94, Tryd.ntmps94
    go_wp2
    go_ret
    exact ⟨ret_int hS.out.symm, rfl⟩

set_option maxHeartbeats 400000 in
theorem window_any (p m : Nat) (w : World) (hp : p ≤ 9223372036854775807) (hm : m ≤ 64) :
    Calls Tryd.prog 89 #[.int .i64 (p : Int), .int .i64 (m : Int)] w fun e w' => e = .returned (.tuple #[.int .i64 ((p / 8 : Nat) : Int), .int .i64 ((p % 8 : Nat) : Int), .int .i64 ((min 8 (p % 8 + m) : Nat) : Int)]) ∧ w = w' := by
  go_enter Tryd.func89, Tryd.ntmps89
  go_wp2
  all_goals
    go_ret3
    exact ⟨ret3_eq (by omega) (by omega) (by omega), rfl⟩

theorem step_u64 (x M s : Nat) (hx : x < 18446744073709551616) (hM : M < 18446744073709551616) (d : Int) (hd : d = ((2 ^ s : Nat) : Int)) :
    bits .or .u64 (bits .and .u64 ((x : Int) / d) (M : Int)) (IntKind.u64.wrap (bits .and .u64 (x : Int) (M : Int) * d)) = (((x / 2 ^ s &&& M) ||| (x &&& M) * 2 ^ s % 2 ^ 64 : Nat) : Int) := by
  subst hd
  have h1 : x / 2 ^ s < 18446744073709551616 := Nat.lt_of_le_of_lt (Nat.div_le_self _ _) hx
  have h2 : x &&& M < 18446744073709551616 := Nat.lt_of_le_of_lt Nat.and_le_left hx
  rw [← Int.natCast_ediv, u64_and_nat _ _ h1 hM, u64_and_nat _ _ hx hM, ← Int.natCast_mul, IntKind.wrap_u64]
  rw [show (((x &&& M) * 2 ^ s : Nat) : Int) % 18446744073709551616 = (((x &&& M) * 2 ^ s % 2 ^ 64 : Nat) : Int) from by simp]
  rw [u64_or_nat _ _ (Nat.lt_of_le_of_lt Nat.and_le_left h1) (Nat.mod_lt _ (by decide))]

theorem step6_u64 (x : Nat) (hx : x < 18446744073709551616) :
    bits .or .u64 ((x : Int) / 4294967296) (IntKind.u64.wrap ((x : Int) * 4294967296)) = ((s6 x : Nat) : Int) := by
  have h1 : x / 2 ^ 32 < 18446744073709551616 := Nat.lt_of_le_of_lt (Nat.div_le_self _ _) hx
  rw [show (x : Int) / 4294967296 = ((x / 2 ^ 32 : Nat) : Int) from by simp, IntKind.wrap_u64, show (x : Int) * 4294967296 % 18446744073709551616 = ((x * 2 ^ 32 % 2 ^ 64 : Nat) : Int) from by simp]
  rw [u64_or_nat _ _ h1 (Nat.mod_lt _ (by decide))]
  rfl

set_option maxHeartbeats 1000000 in
theorem revBytes_any (x : Nat) (w : World) (h : x < 18446744073709551616) :
    Calls Tryd.prog 95 #[.int .u64 (x : Int)] w fun e w' => e = .returned (.int .u64 ((s6 (s5 (s4 x)) : Nat) : Int)) ∧ w = w' := by
  have e4 := Lib.hid (step_u64 x 71777214294589695 8 h (by decide) 256 rfl)
  have l4 := Lib.hid (show s4 x < 18446744073709551616 from s_lt _ _ _ h)
  have e5 := Lib.hid (step_u64 (s4 x) 281470681808895 16 l4.out (by decide) 65536 rfl)
  have l5 := Lib.hid (show s5 (s4 x) < 18446744073709551616 from s_lt _ _ _ l4.out)
  have e6 := Lib.hid (step6_u64 (s5 (s4 x)) l5.out)
  go_enter Tryd.func95, Tryd.ntmps95
  go_wp2
  go_ret
  exact ⟨ret_int ((congrArg (fun z : Int => bits .or .u64 ((bits .or .u64 (bits .and .u64 (z / 65536) 281470681808895) (IntKind.u64.wrap (bits .and .u64 z 281470681808895 * 65536))) / 4294967296) (IntKind.u64.wrap ((bits .or .u64 (bits .and .u64 (z / 65536) 281470681808895) (IntKind.u64.wrap (bits .and .u64 z 281470681808895 * 65536))) * 4294967296))) e4.out).trans ((congrArg (fun z : Int => bits .or .u64 (z / 4294967296) (IntKind.u64.wrap (z * 4294967296))) e5.out).trans e6.out)), rfl⟩

set_option maxHeartbeats 1000000 in
theorem reverse_any (x : Nat) (w : World) (h : x < 18446744073709551616) :
    Calls Tryd.prog 92 #[.int .u64 (x : Int)] w fun e w' => e = .returned (.int .u64 ((rv x : Nat) : Int)) ∧ w = w' := by
  have e1 := Lib.hid (step_u64 x 6148914691236517205 1 h (by decide) 2 rfl)
  have l1 := Lib.hid (show s1 x < 18446744073709551616 from s_lt _ _ _ h)
  have e2 := Lib.hid (step_u64 (s1 x) 3689348814741910323 2 l1.out (by decide) 4 rfl)
  have l2 := Lib.hid (show s2 (s1 x) < 18446744073709551616 from s_lt _ _ _ l1.out)
  have e3 := Lib.hid (step_u64 (s2 (s1 x)) 1085102592571150095 4 l2.out (by decide) 16 rfl)
  have l3 := Lib.hid (show s3 (s2 (s1 x)) < 18446744073709551616 from s_lt _ _ _ l2.out)
  have hr := Lib.hid (rv_steps x h)
  go_enter Tryd.func92, Tryd.ntmps92
  go_wp2_with (go_at_call 95
               rw [show bits .or .u64 (bits .and .u64 ((x : Int) / 2) 6148914691236517205) (IntKind.u64.wrap (bits .and .u64 (x : Int) 6148914691236517205 * 2)) = ((s1 x : Nat) : Int) from e1.out,
                show bits .or .u64 (bits .and .u64 (((s1 x : Nat) : Int) / 4) 3689348814741910323) (IntKind.u64.wrap (bits .and .u64 ((s1 x : Nat) : Int) 3689348814741910323 * 4)) = ((s2 (s1 x) : Nat) : Int) from e2.out,
                show bits .or .u64 (bits .and .u64 (((s2 (s1 x) : Nat) : Int) / 16) 1085102592571150095) (IntKind.u64.wrap (bits .and .u64 ((s2 (s1 x) : Nat) : Int) 1085102592571150095 * 16)) = ((s3 (s2 (s1 x)) : Nat) : Int) from e3.out]
               refine (revBytes_any _ _ l3.out).mono ?_
               rintro e w' ⟨rfl, rfl⟩)
  go_ret
  exact ⟨ret_int (by rw [hr.out]), rfl⟩

set_option maxHeartbeats 1000000 in
theorem turn_any (x m : Nat) (w : World) (h : x < 18446744073709551616) (hm : m ≤ 64) :
    Calls Tryd.prog 70 #[.int .u64 (x : Int), .int .i64 (m : Int)] w fun e w' => e = .returned (.int .u64 ((rv x / 2 ^ (64 - m) : Nat) : Int)) ∧ w = w' := by
  go_enter Tryd.func70, Tryd.ntmps70
  go_wp2_with (go_at_call 92; refine (reverse_any _ _ h).mono ?_; rintro e w' ⟨rfl, rfl⟩)
  go_ret
  exact ⟨ret_int (by simp), rfl⟩
end Go.Proofs.YtgcijioiicmjiaaDoor
set_option linter.all false
namespace Go.Proofs.YtgcijioiicmjiaaDoor
open Go.RowKit
open Bi

/-- A row of eight bits, and memory that is new alone. -/
def Split (w : World) (f : Nat → Bool) (e : Ending) (w' : World) : Prop := e = .returned (.agg (u8s (bl f)).toArray) ∧ Below w.heap.size w w'

theorem size_u8 : (Tryd.prog.info? 5).map (·.size) = some 1 := by kernel_rfl
theorem info_row8 : (Tryd.prog.info? 125).map (·.size) = some 8 := by kernel_rfl
theorem Blk.setBit {w : World} {g : Nat} {t : TypeId} {f : Nat → Bool} (h : Blk w g t (bl f)) (i : Nat) (b : Bool) : Blk (w.setCell ⟨g, i, none⟩ (.int .u8 ((b.toNat : Nat) : Int))) g t (bl fun j => if j = i then b else f j) := by
  rw [← bl_set]
  exact h.set_ i _
theorem Blk.setCell_other {w : World} {g k i : Nat} {t : TypeId} {xs : List Nat} (h : Blk w g t xs) (hk : g ≠ k) (v : Value) : Blk (w.setCell ⟨k, i, none⟩ v) g t xs := (Below.heap_setCell w _ v g hk).trans h
theorem shr_u8 (x s : Nat) (hx : x < 256) (hs : s < 8) : bits .and .u8 ((x : Int) / 2 ^ min s 8) 1 = (((x.testBit s).toNat : Nat) : Int) := by
  rw [Nat.min_eq_left (by omega), show (x : Int) / 2 ^ s = ((x / 2 ^ s : Nat) : Int) from by simp]
  have h1 : x / 2 ^ s < 256 := Nat.lt_of_le_of_lt (Nat.div_le_self _ _) hx
  have := u8_and_nat (x / 2 ^ s) 1 h1 (by omega)
  rw [show ((1 : Nat) : Int) = 1 from rfl] at this
  rw [this, nat_mask1, bit_div]

set_option maxHeartbeats 1000000 in
theorem split_any (x : Nat) (hi : Bool) (w : World) (h : x < 256) :
    Calls Tryd.prog 90 #[.int .u8 (x : Int), .bool hi] w (Split w fun i => x.testBit (pl i hi)) := by
  have hS0 := Lib.hid (show bl (fun i => decide (i < 0) && x.testBit (pl i hi)) = [0, 0, 0, 0, 0, 0, 0, 0] from by simp [bl, List.range, List.range.loop])
  have hb0 := Lib.hid (show Blk ((w.alloc (.cells (u8s [0, 0, 0, 0, 0, 0, 0, 0]).toArray 125)).alloc (.cells (u8s [0, 0, 0, 0, 0, 0, 0, 0]).toArray 125)) w.heap.size 125 [0, 0, 0, 0, 0, 0, 0, 0] from (Blk.new' w _ _).old _)
  have hb1 := Lib.hid (show Blk ((w.alloc (.cells (u8s [0, 0, 0, 0, 0, 0, 0, 0]).toArray 125)).alloc (.cells (u8s [0, 0, 0, 0, 0, 0, 0, 0]).toArray 125)) (w.heap.size + 1) 125 [0, 0, 0, 0, 0, 0, 0, 0] from by
    have := Blk.new' (w.alloc (.cells (u8s [0, 0, 0, 0, 0, 0, 0, 0]).toArray 125)) 125 [0, 0, 0, 0, 0, 0, 0, 0]
    simpa using this)
  have hbel := Lib.hid (show Below w.heap.size w ((w.alloc (.cells (u8s [0, 0, 0, 0, 0, 0, 0, 0]).toArray 125)).alloc (.cells (u8s [0, 0, 0, 0, 0, 0, 0, 0]).toArray 125)) from ((Below.refl _ _).alloc (Nat.le_refl _) _).alloc (by simp) _)
  go_enter Tryd.func90, Tryd.ntmps90
  go_wp2
  go_loopw [7] (fun i wr => ∃ k : Nat, k ≤ 8 ∧ i = .int .i64 k ∧ Blk wr (w.heap.size + 1) 125 (bl fun i => decide (i < k) && x.testBit (pl i hi)) ∧ Below w.heap.size w wr ∧ Blk wr w.heap.size 125 [0, 0, 0, 0, 0, 0, 0, 0]) (fun i _ => 8 - (intOf i).toNat)
  case atStart =>
    exact ⟨0, by omega, rfl, by rw [hS0.out]; exact hb1.out, hbel.out, hb0.out⟩
  case round =>
    obtain ⟨k, hk, rfl, hbl, hbw, hbz⟩ := hrel
    clear hS0 hb0 hb1 hbel
    by_cases hlt : k < 8
    · have hcx := hbl.cell k (by rw [bl_length]; omega)
      have hfx := hbl.frozen k
      go_wp2_with (go_at_call 94; refine (place_any k hi _ hlt).mono ?_; rintro e w' ⟨rfl, rfl⟩)
      go_roundw
      case rel =>
        rw [shr_u8 x _ h (pl_lt hlt hi)]
        refine ⟨k + 1, by omega, by go_num, ?_, hbw.setCell (by simp) _, hbz.setCell_other (by omega) _⟩
        have := hbl.setBit k (x.testBit (pl k hi))
        rw [bl_congr (g := fun i => decide (i < k + 1) && x.testBit (pl i hi)) (by
          intro i _
          by_cases h1 : i = k
          · subst h1; simp
          · simp [h1, show i < k + 1 ↔ i < k by omega])] at this
        exact this
      case measure => simp [intOf]; omega
    · obtain rfl : k = 8 := by omega
      go_wp2_with (first
        | (with_reducible refine wpList_load_bytes rfl 125 (.tmp 5) rfl (w.heap.size + 1) rfl 125 _ 8 5 hbl Tryd.underlying125 (by rw [bl_length]; exact info_row8) ?_)
        | (with_reducible refine wpList_store_bytes rfl 125 (.tmp 4) (.tmp 19) rfl rfl w.heap.size rfl _ rfl 125 _ hbz (by rw [bl_length]; exact info_row8) (bl_length _).symm ?_; intro w2 hr2))
      refine bodyPost_ret (results_bytes Tryd.results90 _ w.heap.size 125 _ 8 5 rfl hr2.blk Tryd.underlying125 (by rw [bl_length]; exact info_row8)) rfl ⟨?_, hr2.below _ _ (Nat.le_refl _) hbw⟩
      rw [bl_congr (g := fun i => x.testBit (pl i hi)) (by intro i h8; simp [h8])]

theorem shl_u8 (b : Bool) (s : Nat) (hs : s < 8) : ((b.toNat : Int) * 2 ^ min s 8 % 256) = ((b.toNat * 2 ^ s : Nat) : Int) := by
  rw [Nat.min_eq_left (by omega)]
  have h1 : 2 ^ s ≤ 2 ^ 7 := Nat.pow_le_pow_right (by omega) (by omega)
  have h2 : b.toNat * 2 ^ s ≤ 1 * 2 ^ 7 := Nat.mul_le_mul (by have := b_lt b; omega) h1
  have e : ((b.toNat : Int) * 2 ^ s) = ((b.toNat * 2 ^ s : Nat) : Int) := by simp
  rw [e]
  omega

/-- A byte of an array by value. -/
theorem run_index_u8 (t e : TypeId) (n : Nat) (hu : Tryd.prog.underlying t = some (.array n e)) (he : Tryd.prog.underlying e = some (.int .u8)) (hs : (Tryd.prog.info? e).map (·.size) = some 1) (xs : List Nat) (i : Nat) (hi : i < n) (hn : xs.length = n) (w : World) :
    (Instr.index t (.agg (u8s xs).toArray) (.int .i64 (i : Int))).run Tryd.prog w = .ok (.int .u8 ((xs.getD i 0 : Nat) : Int)) w := by
  cases hq : Tryd.prog.info? e with
  | none => simp [hq] at hs
  | some inf =>
    have hz : inf.size = 1 := by simpa [hq] using hs
    have hx : xs[i]? = some (xs[i]'(by omega)) := List.getElem?_eq_getElem (by omega)
    have hc : (0 : Int) ≤ (i : Int) ∧ (i : Int) < (n : Int) := by omega
    simp [Instr.index, run_underlying hu, run_underlying he, asIntOf, hc, go_sem, sizeOf, typeInfo, hq, hz, part, isAgg, u8s, hx]
    omega

set_option maxHeartbeats 1000000 in
theorem join_any (f : Nat → Bool) (hi : Bool) (w : World) :
    Calls Tryd.prog 91 #[.agg (u8s (bl f)).toArray, .bool hi] w fun e w' => e = .returned (.int .u8 ((nm (fun q => f (pl q hi)) 8 : Nat) : Int)) ∧ Below w.heap.size w w' := by
  have hb0 := Lib.hid (show Blk (w.alloc (.cells (u8s (bl f)).toArray 125)) w.heap.size 125 (bl f) from Blk.new' w _ _)
  have hbel := Lib.hid (show Below w.heap.size w (w.alloc (.cells (u8s (bl f)).toArray 125)) from (Below.refl _ _).alloc (Nat.le_refl _) _)
  have hj := Lib.hid (jn_full f hi)
  go_enter Tryd.func91, Tryd.ntmps91
  go_wp2_with (with_reducible refine wpList_load_bytes rfl 125 (.tmp 2) rfl w.heap.size rfl 125 _ 8 5 hb0.out Tryd.underlying125 (by rw [bl_length]; exact info_row8) ?_)
  go_loop [5, 9] (fun t i => ∃ k : Nat, k ≤ 8 ∧ i = .int .i64 k ∧ t = .int .u8 ((jn f hi k : Nat) : Int)) (fun _ i => 8 - (intOf i).toNat)
  case atStart => exact ⟨0, by omega, rfl, by rw [jn_zero]; rfl⟩
  case round =>
    obtain ⟨k, hk, rfl, rfl⟩ := hrel
    clear hb0
    by_cases hlt : k < 8
    · have hcx : ∀ w, (Instr.index 125 (.agg (u8s (bl f)).toArray) (.int .i64 (k : Int))).run Tryd.prog w = .ok (.int .u8 (((f k).toNat : Nat) : Int)) w := fun w => by
        rw [run_index_u8 _ _ 8 Tryd.underlying125 Tryd.underlying5 size_u8 _ _ hlt (bl_length f), bl_getD _ _ hlt]
      go_wp2_with (go_at_call 94; refine (place_any k hi _ hlt).mono ?_; rintro e w' ⟨rfl, rfl⟩)
      go_round
      case rel =>
        refine ⟨k + 1, by omega, by go_num, ?_⟩
        have h1 := pl_lt hlt hi
        have h2 : (f k).toNat * 2 ^ pl k hi < 256 := by
          have a : 2 ^ pl k hi ≤ 2 ^ 7 := Nat.pow_le_pow_right (by omega) (by omega)
          have b : (f k).toNat * 2 ^ pl k hi ≤ 1 * 2 ^ 7 := Nat.mul_le_mul (by have := b_lt (f k); omega) a
          omega
        rw [shl_u8 _ _ h1, u8_or_nat _ _ (jn_lt _ _ _) h2, jn_step _ _ _ hlt]
      case measure => simp [intOf]; omega
    · obtain rfl : k = 8 := by omega
      go_wp2
      go_ret
      exact ⟨ret_int (by rw [hj.out]), hbel.out⟩
end Go.Proofs.YtgcijioiicmjiaaDoor
set_option linter.all false
namespace Go.Proofs.YtgcijioiicmjiaaDoor
open Go.RowKit
open Bi

theorem shl_u64 (b : Bool) (s : Nat) (hs : s < 64) : IntKind.u64.wrap (IntKind.u64.wrap (b.toNat : Int) * 2 ^ s) = ((b.toNat * 2 ^ s : Nat) : Int) := by
  have h1 : 2 ^ s ≤ 2 ^ 63 := Nat.pow_le_pow_right (by omega) (by omega)
  have h0 := b_lt b
  have h2 : b.toNat * 2 ^ s ≤ 1 * 2 ^ 63 := Nat.mul_le_mul (by omega) h1
  have e : ((b.toNat : Int) * 2 ^ s) = ((b.toNat * 2 ^ s : Nat) : Int) := by simp
  rw [show IntKind.u64.wrap (b.toNat : Int) = (b.toNat : Int) from by rw [IntKind.wrap_u64]; omega, e, IntKind.wrap_u64]
  omega
theorem bit_lt (b : Bool) (s : Nat) (hs : s < 64) : b.toNat * 2 ^ s < 18446744073709551616 := by
  have h1 : 2 ^ s ≤ 2 ^ 63 := Nat.pow_le_pow_right (by omega) (by omega)
  have h2 : b.toNat * 2 ^ s ≤ 1 * 2 ^ 63 := Nat.mul_le_mul (by have := b_lt b; omega) h1
  omega
theorem rd_lt (xs : List Nat) (hi : Bool) (p m : Nat) (hm : m ≤ 64) : rd xs hi p m < 18446744073709551616 :=
  Nat.lt_of_lt_of_le (nm_lt _ m) (Nat.pow_le_pow_right (by omega) hm)

theorem Blk.zero8 (w : World) (t : TypeId) : Blk (w.alloc (.cells #[.int .u8 0, .int .u8 0, .int .u8 0, .int .u8 0, .int .u8 0, .int .u8 0, .int .u8 0, .int .u8 0] t)) w.heap.size t [0, 0, 0, 0, 0, 0, 0, 0] := Blk.new' w t [0, 0, 0, 0, 0, 0, 0, 0]

theorem len8 : Tryd.prog.arrayLen 125 = 8 := by kernel_rfl
theorem elem8 : Tryd.prog.elem 125 = 5 := by kernel_rfl
/-- A part of an array of eight bytes. -/
theorem slice8 (g f e : Nat) (hf : f < e) (he : e ≤ 8) (w : World) :
    (Instr.sliceAt 125 (.pointer (some ⟨g, 0, none⟩)) (some (.int .i64 (f : Int))) (some (.int .i64 (e : Int))) none).run Tryd.prog w = .ok (.slice (some ⟨g, f, none⟩) (e - f) (8 - f)) w := by
  rw [run_sliceAt_array_lh w 125 ⟨g, 0, none⟩ (by rw [len8, elem8]; exact Tryd.underlying125) .i64 .i64 (f : Int) (e : Int) (by omega) (by omega) (by rw [len8]; omega), elem8]
  have hs := size_u8
  cases hq : Tryd.prog.info? 5 with
  | none => simp [hq] at hs
  | some inf =>
    have hz : inf.size = 1 := by simpa [hq] using hs
    have h8 : ¬ 8 = f := by omega
    simp [slicedAt, sizeOf, typeInfo, hq, hz, len8, h8, add_at]

theorem window_at (P M : Int) (p m q f e : Nat) (w : World) (hP : P = (p : Int)) (hM : M = (m : Int)) (hp : p ≤ 9223372036854775807) (hm : m ≤ 64) (hq : p / 8 = q) (hf : p % 8 = f) (he : min 8 (p % 8 + m) = e) :
    Calls Tryd.prog 89 #[.int .i64 P, .int .i64 M] w fun e' w' => e' = .returned (.tuple #[.int .i64 (q : Int), .int .i64 (f : Int), .int .i64 (e : Int)]) ∧ w = w' := by
  subst hP hM hq hf he
  exact window_any p m w hp hm

set_option maxHeartbeats 1000000 in
theorem read_any (A : Option Addr) (n c p m : Nat) (hi : Bool) (xs : List Nat) (w : World) (h : Bs w w.heap.size A n xs) (hn : n ≤ 140737488355328) (hm : m ≤ 64) (hp : p + m ≤ 8 * n) :
    Calls Tryd.prog 79 #[.slice A n c, .int .i64 (p : Int), .int .i64 (m : Int), .bool hi] w fun e w' => e = .returned (.int .u64 ((rd xs hi p m : Nat) : Int)) ∧ Below w.heap.size w w' := by
  have H := Lib.hid h
  clear h
  go_enter Tryd.func79, Tryd.ntmps79
  go_wp2
  go_loopw [9, 10] (fun t i wr => ∃ k : Nat, k ≤ m ∧ i = .int .i64 k ∧ t = .int .u64 ((rd xs hi p k : Nat) : Int) ∧ Below w.heap.size w wr) (fun _ i _ => m - (intOf i).toNat)
  case atStart => exact ⟨0, Nat.zero_le _, rfl, rfl, Below.refl _ _⟩
  case round =>
    obtain ⟨k, hk, rfl, rfl, hbw⟩ := hrel
    by_cases hlt : k < m
    · obtain ⟨b, off, rfl, hb, hc⟩ := H.out.2.2 (by omega)
      obtain ⟨q, hq⟩ : ∃ q, (p + k) / 8 = q := ⟨_, rfl⟩
      obtain ⟨f, hf⟩ : ∃ f, (p + k) % 8 = f := ⟨_, rfl⟩
      obtain ⟨e, he⟩ : ∃ e, min 8 ((p + k) % 8 + (m - k)) = e := ⟨_, rfl⟩
      have hqn : q < n := by omega
      have hf8 : f < 8 := by omega
      have hfe : f < e := by omega
      have he8 : e ≤ 8 := by omega
      have hem : k + (e - f) ≤ m := by omega
      have hcx : wr.cell? ⟨b, off + q, none⟩ = some (.int .u8 ((xs.getD q 0 : Nat) : Int)) := (hbw.cell hb).trans (hc _ (by omega))
      have hx8 := H.out.getD_lt q
      have HBT := Lib.hid (show ∀ j, f + j < 8 → bt xs hi (p + (k + j)) = (xs.getD q 0).testBit (pl (f + j) hi) from fun j hj => by
        unfold bt
        rw [show (p + (k + j)) / 8 = q by omega, show (p + (k + j)) % 8 = f + j by omega])
      clear hc
      generalize xs.getD q 0 = x at *
      have HQ := Lib.hid hq
      have HF := Lib.hid hf
      have HE := Lib.hid he
      clear hq hf he
      have hsl := fun g w => slice8 g f e hfe he8 w
      go_wp2_with (first
        | (go_at_call 89; refine (window_at _ _ (p + k) (m - k) q f e _ (by omega) (by omega) (by omega) (by omega) HQ.out HF.out HE.out).mono ?_; rintro e w' ⟨rfl, rfl⟩)
        | (go_at_call 90; refine (split_any x hi _ hx8).mono ?_; rintro e w1 ⟨rfl, hb1⟩; have hz := Lib.hid (Blk.zero8 w1 125))
        | (with_reducible refine wpList_store_bytes rfl 125 (.tmp 14) (.tmp 36) rfl rfl w1.heap.size rfl _ rfl 125 _ hz.out (by rw [bl_length]; exact info_row8) (bl_length _).symm ?_; intro w2 hr2))
      have hbw1 := hbw.trans (hb1.mono hbw.size)
      have hb2 := Lib.hid (hr2.below _ _ hbw1.size (hbw1.alloc hbw1.size _))
      have hblk := Lib.hid hr2.blk
      clear hr2 hz hb1
      go_loop [9, 10, 41] (fun t i j => ∃ r : Nat, r ≤ e - f ∧ j = .int .i64 r ∧ i = .int .i64 ((k + r : Nat) : Int) ∧ t = .int .u64 ((rd xs hi p (k + r) : Nat) : Int)) (fun _ _ j => e - f - (intOf j).toNat)
      case atStart => exact ⟨0, Nat.zero_le _, rfl, rfl, rfl⟩
      case round =>
        obtain ⟨r, hr, rfl, rfl, rfl⟩ := hrel
        by_cases hlr : r < e - f
        · have hcr := hblk.out.cell (f + r) (by rw [bl_length]; omega)
          rw [bl_getD _ _ (by omega)] at hcr
          go_wp2
          go_round
          case rel =>
            refine ⟨r + 1, by omega, by go_num, by go_num, ?_⟩
            rw [shl_u64 _ _ (by omega), u64_or_nat _ _ (rd_lt _ _ _ _ (by omega)) (bit_lt _ _ (by omega)), ← HBT.out r (by omega), rd_step]
            rfl
          case measure => simp [intOf]; omega
        · obtain rfl : r = e - f := by omega
          go_wp2
          go_roundw
          case rel =>
            exact ⟨k + (e - f), hem, rfl, rfl, hb2.out⟩
          case measure => simp [intOf]; omega
    · obtain rfl : k = m := by omega
      go_wp2
      go_ret
      exact ⟨rfl, hbw⟩
end Go.Proofs.YtgcijioiicmjiaaDoor
set_option linter.all false
namespace Go.Proofs.YtgcijioiicmjiaaDoor
open Go.RowKit
open Bi

theorem info_u8 : (Tryd.prog.info? 5).map (fun i => (i.zero, i.size, i.bytes)) = some (some (.int .u8 0), 1, 1) := by kernel_rfl

/-- A new row of n bytes that reads as xs. -/
def Cloned (w : World) (n : Nat) (xs : List Nat) (e : Ending) (w' : World) : Prop :=
  ∃ g, e = .returned (.slice (some ⟨g, 0, none⟩) n n) ∧ w.heap.size ≤ g ∧ Blk w' g 5 xs ∧ Below w.heap.size w w'

theorem splice_all {α : Type} (L cs : List α) (h : L.length = cs.length) : splice L 0 cs = cs := by
  unfold splice
  rw [List.drop_of_length_le (by omega)]
  simp

theorem and_one (N s : Nat) (hN : N < 18446744073709551616) : bits .and .u64 ((N : Int) / 2 ^ s) 1 % 256 = (((N.testBit s).toNat : Nat) : Int) := by
  have h1 : N / 2 ^ s < 18446744073709551616 := Nat.lt_of_le_of_lt (Nat.div_le_self _ _) hN
  have := u64_and_nat (N / 2 ^ s) 1 h1 (by omega)
  rw [show ((1 : Nat) : Int) = 1 from rfl] at this
  rw [show (N : Int) / 2 ^ s = ((N / 2 ^ s : Nat) : Int) from by simp, this, nat_mask1, bit_div]
  have := b_lt (N.testBit s)
  omega

set_option maxHeartbeats 2000000 in
theorem write_any (A : Option Addr) (n c p m N : Nat) (hi : Bool) (xs : List Nat) (w : World) (h : Bs w w.heap.size A n xs) (hn : n ≤ 140737488355328) (hm : m ≤ 64) (hp : p + m ≤ 8 * n) (hN : N < 18446744073709551616) :
    Calls Tryd.prog 69 #[.slice A n c, .int .i64 (p : Int), .int .i64 (m : Int), .int .u64 (N : Int), .bool hi] w (Cloned w n (lay xs hi p m fun k => N.testBit k)) := by
  have hmk := run_make_row' (P := Tryd.prog) 22 5 (.int .u8 0) 1 Tryd.underlying22 info_u8 rfl .i64 .i64 n (by omega) (by omega)
  have hg := Lib.hid (show (w.alloc (.cells (madeCells #[.int .u8 0] n) 5)).heap[w.heap.size]? = some (.cells ((madeCells #[Value.int .u8 0] n).toList.toArray) 5 (0, 0)) from by
    rw [Array.toArray_toList]; exact heap_alloc_new w _)
  have hl := Lib.hid (show (u8s xs).length = Nat.min n n from by rw [u8s_length, h.1]; simp)
  have hpp := Lib.hid (show 0 < (u8s xs).length → some (⟨w.heap.size, 0, none⟩ : Addr) = some ⟨w.heap.size, 0, none⟩ ∧ ∃ ad, A = some ad ∧ ∀ j v, (u8s xs)[j]? = some v → (w.alloc (.cells (madeCells #[.int .u8 0] n) 5)).cell? (ad.add j) = some v from by
    intro h0
    rw [u8s_length, h.1] at h0
    obtain ⟨b, off, rfl, hb, hc⟩ := h.2.2 h0
    refine ⟨rfl, _, rfl, fun j v hj => ?_⟩
    have hjl : j < n := by
      rcases Nat.lt_or_ge j n with h | h'
      · exact h
      · rw [List.getElem?_eq_none (by rw [u8s_length, h.1]; exact h')] at hj; cases hj
    have hv : v = .int .u8 ((xs.getD j 0 : Nat) : Int) := by
      have hjx : j < xs.length := by rw [h.1]; exact hjl
      simp [u8s, List.getElem?_eq_getElem hjx] at hj
      rw [← hj]
      simp [List.getElem?_eq_getElem hjx]
    rw [hv, show (⟨b, off, none⟩ : Addr).add j = ⟨b, off + j, none⟩ from by unfold Addr.add; split <;> simp_all, World.cell?_alloc_lt w _ _ (by exact hb)]
    exact hc j hjl)
  have hf := Lib.hid (show 0 + (u8s xs).length ≤ (madeCells #[Value.int .u8 0] n).toList.length from by rw [u8s_length, h.1]; simp [size_madeCells])
  have hB := Lib.hid ((Below.refl w.heap.size w).alloc (Nat.le_refl _) (.cells (madeCells #[.int .u8 0] n) 5))
  have hx := Lib.hid h.1
  have hx2 := Lib.hid h.2.1
  have hz := Lib.hid (lay_zero xs hi p (fun k => N.testBit k) h.2.1)
  clear h
  go_enter Tryd.func69, Tryd.ntmps69
  go_wp2_with (with_reducible refine wpList_copy_splice rfl (.tmp 21) (.tmp 22) 22 22 rfl 5 Tryd.underlying22 size_u8 _ _ _ _ _ _ rfl rfl w.heap.size 0 _ 5 hg.out (u8s xs) hl.out hpp.out hf.out (u8s_one xs) w.heap.size w hB.out (Nat.le_refl _) ?_; intro w2 hg2 hb2)
  have hblk0 := Lib.hid (show Blk w2 w.heap.size 5 xs from by
    have := hg2.out
    rw [splice_all _ _ (by rw [u8s_length, hx.out]; simp [size_madeCells])] at this
    exact this)
  have hs2 : w.heap.size < w2.heap.size := hblk0.out.lt
  clear hg hl hpp hf hB hg2 hmk
  go_loopw [12] (fun i wr => ∃ k : Nat, k ≤ m ∧ i = .int .i64 k ∧ Blk wr w.heap.size 5 (lay xs hi p k fun k => N.testBit k) ∧ Below w.heap.size w wr) (fun i _ => m - (intOf i).toNat)
  case atStart => exact ⟨0, Nat.zero_le _, rfl, by rw [hz.out]; exact hblk0.out, hb2⟩
  case round =>
    obtain ⟨k, hk, rfl, hbl, hbw⟩ := hrel
    clear hblk0 hs2 hb2
    by_cases hlt : k < m
    · obtain ⟨q, hq⟩ : ∃ q, (p + k) / 8 = q := ⟨_, rfl⟩
      obtain ⟨f, hf⟩ : ∃ f, (p + k) % 8 = f := ⟨_, rfl⟩
      obtain ⟨e, he⟩ : ∃ e, min 8 ((p + k) % 8 + (m - k)) = e := ⟨_, rfl⟩
      have hqn : q < n := by omega
      have hf8 : f < 8 := by omega
      have hfe : f < e := by omega
      have he8 : e ≤ 8 := by omega
      have hem : k + (e - f) ≤ m := by omega
      have hcx := hbl.cell q (by rw [lay_length, hx.out]; omega)
      have hx8 := getD_lt' (lay_lt xs hi p k fun k => N.testBit k) q
      have HL := Lib.hid (show (lay xs hi p k fun k => N.testBit k).set q (nm (fun q' => if f ≤ pl q' hi ∧ pl q' hi < e then N.testBit (k + pl q' hi - f) else ((lay xs hi p k fun k => N.testBit k).getD q 0).testBit q') 8) = lay xs hi p (k + (e - f)) fun k => N.testBit k from by
        have := lay_byte xs hi p k (fun k => N.testBit k) e he8 (by omega) (by rw [hx.out]; omega)
        rw [hq, hf] at this
        exact this)
      generalize (lay xs hi p k fun k => N.testBit k).getD q 0 = x at *
      have HQ := Lib.hid hq
      have HF := Lib.hid hf
      have HE := Lib.hid he
      have hbl' := Lib.hid hbl
      clear hq hf he hbl
      go_wp2_with (first
        | (go_at_call 89; refine (window_at _ _ (p + k) (m - k) q f e _ (by omega) (by omega) (by omega) (by omega) HQ.out HF.out HE.out).mono ?_; rintro e w' ⟨rfl, rfl⟩)
        | (go_at_call 90; refine (split_any x hi _ hx8).mono ?_; rintro e w1 ⟨rfl, hb1⟩; have hz1 := Lib.hid (Blk.zero8 w1 125))
        | (with_reducible refine wpList_store_bytes rfl 125 (.tmp 16) (.tmp 43) rfl rfl w1.heap.size rfl _ rfl 125 _ hz1.out (by rw [bl_length]; exact info_row8) (bl_length _).symm ?_; intro w3 hr3))
      have hbw1 := hbw.trans (hb1.mono hbw.size)
      have hb3 := Lib.hid (hr3.below _ _ hbw1.size (hbw1.alloc hbw1.size _))
      have hlt1 : w.heap.size < w1.heap.size := Nat.lt_of_lt_of_le hbl'.out.lt hb1.size
      have hbl3 := Lib.hid (((hbl'.out.below hb1 hbl'.out.lt).old (.cells #[.int .u8 0, .int .u8 0, .int .u8 0, .int .u8 0, .int .u8 0, .int .u8 0, .int .u8 0, .int .u8 0] 125)).rowAt hr3 (by omega))
      have hblk := Lib.hid hr3.blk
      clear hr3 hz1 hb1 hbl' hbw1
      have hstart := Lib.hid (show Blk w3 w1.heap.size 125 (bl fun i => if f ≤ i ∧ i < f + 0 then N.testBit (k + i - f) else x.testBit (pl i hi)) from by
        rw [bl_congr (g := fun i => x.testBit (pl i hi)) (by intro i _; rw [if_neg (by omega)])]
        exact hblk.out)
      clear hblk
      go_loopw [12, 17] (fun i j wr => ∃ r : Nat, r ≤ e - f ∧ j = .int .i64 ((f + r : Nat) : Int) ∧ i = .int .i64 ((k + r : Nat) : Int) ∧ Blk wr w1.heap.size 125 (bl fun i => if f ≤ i ∧ i < f + r then N.testBit (k + i - f) else x.testBit (pl i hi)) ∧ Blk wr w.heap.size 5 (lay xs hi p k fun k => N.testBit k) ∧ Below w.heap.size w wr) (fun _ j _ => e - (intOf j).toNat)
      case atStart => exact ⟨0, Nat.zero_le _, rfl, rfl, hstart.out, hbl3.out, hb3.out⟩
      case round =>
        obtain ⟨r, hr, rfl, rfl, hba, hbc, hbe⟩ := hrel
        clear hstart hbl3 hb3
        by_cases hlr : r < e - f
        · have hca := hba.cell (f + r) (by rw [bl_length]; omega)
          have hfa := hba.frozen (f + r)
          go_wp2
          go_roundw
          case rel =>
            rw [and_one N (k + r) hN]
            refine ⟨r + 1, by omega, by go_num, by go_num, ?_, hbc.setCell_other (by omega) _, hbe.setCell (by exact Nat.le_of_lt hlt1) _⟩
            have := hba.setBit (f + r) (N.testBit (k + r))
            rw [bl_congr (g := fun i => if f ≤ i ∧ i < f + (r + 1) then N.testBit (k + i - f) else x.testBit (pl i hi)) (by
              intro i _
              by_cases h1 : i = f + r
              · subst h1
                rw [if_pos rfl, if_pos (by omega)]
                congr 1
                omega
              · rw [if_neg h1]
                by_cases h2 : f ≤ i ∧ i < f + r
                · rw [if_pos h2, if_pos (by omega)]
                · rw [if_neg h2, if_neg (by omega)])] at this
            exact this
          case measure => simp [intOf]; omega
        · obtain rfl : r = e - f := by omega
          go_wp2_with (first
            | (with_reducible refine wpList_load_bytes rfl 125 (.tmp 16) rfl w1.heap.size rfl 125 _ 8 5 hba Tryd.underlying125 (by rw [bl_length]; exact info_row8) ?_)
            | (go_at_call 91; refine (join_any _ hi _).mono ?_; rintro e' w5 ⟨rfl, hb5⟩; have hbc5 := hbc.below hb5 hbc.lt; have hcq := hbc5.cell q (by rw [lay_length, hx.out]; omega); have hfq := hbc5.frozen q))
          go_roundw
          case rel =>
            refine ⟨k + (e - f), hem, by go_num, ?_, (hbe.trans (hb5.mono hbe.size)).setCell (Nat.le_refl _) _⟩
            rw [← HL.out, nm_congr (g := fun q' => if f ≤ pl q' hi ∧ pl q' hi < e then N.testBit (k + pl q' hi - f) else x.testBit q') (by
              intro q' h8
              rw [pl_pl h8, show f + (e - f) = e by omega])]
            exact hbc5.set_ q _
          case measure => simp [intOf]; omega
    · obtain rfl : k = m := by omega
      go_wp2
      go_ret
      exact ⟨_, rfl, Nat.le_refl _, hbl, hbw⟩
end Go.Proofs.YtgcijioiicmjiaaDoor
set_option linter.all false
namespace Go.Proofs.YtgcijioiicmjiaaDoor
open Go.RowKit
open Bi

set_option maxHeartbeats 400000 in
theorem holds_yes (A : Option Addr) (n c : Nat) (p m : Int) (w : World) (hn : n ≤ 140737488355328) (h0 : 0 ≤ p) (p2 : p ≤ 9223372036854775807) (h : m ≤ 8 * (n : Int) - p) :
    Calls Tryd.prog 93 #[.slice A n c, .int .i64 p, .int .i64 m] w fun e w' => e = .returned (.bool true) ∧ w = w' := by
  have hd : decide (m ≤ 8 * (n : Int) - p) = true := by simp; omega
  clear h
  go_enter Tryd.func93, Tryd.ntmps93
  go_wp2
  go_ret
  exact ⟨rfl, rfl⟩

set_option maxHeartbeats 400000 in
theorem holds_no (A : Option Addr) (n c : Nat) (p m : Int) (w : World) (hn : n ≤ 140737488355328) (h0 : 0 ≤ p) (p2 : p ≤ 9223372036854775807) (h : 8 * (n : Int) - p < m) :
    Calls Tryd.prog 93 #[.slice A n c, .int .i64 p, .int .i64 m] w fun e w' => e = .returned (.bool false) ∧ w = w' := by
  have hd : decide (m ≤ 8 * (n : Int) - p) = false := by simp; omega
  clear h
  go_enter Tryd.func93, Tryd.ntmps93
  go_wp2
  go_ret
  exact ⟨rfl, rfl⟩

set_option maxHeartbeats 400000 in
theorem check_any (A : Option Addr) (n c : Nat) (p m : Int) (w : World) (hn : n ≤ 140737488355328) (p2 : p ≤ 9223372036854775807) :
    Calls Tryd.prog 78 #[.slice A n c, .int .i64 p, .int .i64 m] w fun e w' => e = .returned (.int .i64 (getE n p m)) ∧ w = w' := by
  by_cases h1 : p < 0
  · rw [getE_one (Or.inl h1)]
    go_enter Tryd.func78, Tryd.ntmps78
    go_wp2
    go_ret
    exact ⟨rfl, rfl⟩
  · by_cases h2 : m < 0
    · rw [getE_one (Or.inr (Or.inl h2))]
      go_enter Tryd.func78, Tryd.ntmps78
      go_wp2
      go_ret
      exact ⟨rfl, rfl⟩
    · by_cases h3 : 64 < m
      · rw [getE_one (Or.inr (Or.inr h3))]
        go_enter Tryd.func78, Tryd.ntmps78
        go_wp2
        go_ret
        exact ⟨rfl, rfl⟩
      · by_cases h4 : 8 * (n : Int) - p < m
        · rw [getE_two (by omega) h4]
          have H4 := Lib.hid h4
          clear h4
          go_enter Tryd.func78, Tryd.ntmps78
          go_wp2_with (go_at_call 93; refine (holds_no _ _ _ _ _ _ hn (by omega) p2 H4.out).mono ?_; rintro e w' ⟨rfl, rfl⟩)
          go_ret
          exact ⟨rfl, rfl⟩
        · rw [getE_zero (by omega) h4]
          have H4 := Lib.hid (Int.not_lt.1 h4)
          clear h4
          go_enter Tryd.func78, Tryd.ntmps78
          go_wp2_with (go_at_call 93; refine (holds_yes _ _ _ _ _ _ hn (by omega) p2 H4.out).mono ?_; rintro e w' ⟨rfl, rfl⟩)
          go_ret
          exact ⟨rfl, rfl⟩

/-- A number, an error's number, and memory that is new alone. -/
def Got (w : World) (N E : Int) (e : Ending) (w' : World) : Prop := e = .returned (.tuple #[.int .u64 N, .int .i64 E]) ∧ Below w.heap.size w w'
/-- A slice that reads as xs, and an error's number. -/
def Laid (w : World) (xs : List Nat) (E : Int) (e : Ending) (w' : World) : Prop :=
  ∃ A n c, e = .returned (.tuple #[.slice A n c, .int .i64 E]) ∧ Bs w' w'.heap.size A n xs ∧ n ≤ c ∧ c ≤ 9223372036854775807 ∧ Below w.heap.size w w'

theorem getV_bad {xs : List Nat} {hi : Bool} {n : Nat} {p m : Int} (hx : xs.length = n) (h : getE n p m ≠ 0) : getV xs hi p m = 0 := by unfold getV; rw [hx, if_neg h]
theorem getV_ok {xs : List Nat} {hi : Bool} {n p m : Nat} (hx : xs.length = n) (h : getE n p m = 0) : getV xs hi p m = ((getN xs hi p m : Nat) : Int) := by unfold getV; rw [hx, if_pos h]; simp

set_option maxHeartbeats 400000 in
theorem high_ok (A : Option Addr) (n c p m : Nat) (xs : List Nat) (w : World) (h : Bs w w.heap.size A n xs) (hn : n ≤ 140737488355328) (hm : m ≤ 64) (hp : p + m ≤ 8 * n) :
    Calls Tryd.prog 48 #[.slice A n c, .int .i64 (p : Int), .int .i64 (m : Int)] w (Got w ((getN xs true p m : Nat) : Int) 0) := by
  have hE := Lib.hid (show getE n p m = 0 from getE_zero (by omega) (by omega))
  rw [← turn_get xs p m hm]
  have H := Lib.hid h
  clear h
  go_enter Tryd.func48, Tryd.ntmps48
  go_wp2_with (first
    | (go_at_call 78; refine (check_any _ _ _ _ _ _ hn (by omega)).mono ?_; rw [hE.out]; rintro e w' ⟨rfl, rfl⟩)
    | (go_at_call 79; refine (read_any A n c p m true xs _ H.out hn hm hp).mono ?_; rintro e w1 ⟨rfl, hb1⟩)
    | (go_at_call 70; refine (turn_any _ m _ (rd_lt _ _ _ _ hm) hm).mono ?_; rintro e w' ⟨rfl, rfl⟩))
  go_ret2
  exact ⟨rfl, hb1⟩

theorem quo_set (N m : Nat) : ((N : Int) / 2 ^ m != 0) = !decide (N < 2 ^ m) := by
  rw [show (N : Int) / 2 ^ m = ((N / 2 ^ m : Nat) : Int) from by simp]
  have hp : 0 < 2 ^ m := Nat.pow_pos (by omega)
  by_cases h : N < 2 ^ m
  · rw [Nat.div_eq_of_lt h]; simp [h]
  · have : 1 ≤ N / 2 ^ m := (Nat.le_div_iff_mul_le hp).2 (by omega)
    rw [show (((N / 2 ^ m : Nat) : Int) != 0) = true from bne_iff_ne.2 (by omega)]
    simp [h]

set_option maxHeartbeats 400000 in
theorem checkSet_any (A : Option Addr) (n c : Nat) (p m : Int) (N : Nat) (w : World) (hn : n ≤ 140737488355328) (p2 : p ≤ 9223372036854775807) :
    Calls Tryd.prog 68 #[.slice A n c, .int .i64 p, .int .i64 m, .int .u64 (N : Int)] w fun e w' => e = .returned (.int .i64 (setE n p m N)) ∧ w = w' := by
  by_cases hE : getE n p m = 0
  · obtain ⟨q1, q2, q3, q4⟩ := getE_ok hE
    obtain ⟨m', rfl⟩ := Int.eq_ofNat_of_zero_le q2
    have hq := quo_set N m'
    have hE' := Lib.hid hE
    by_cases hN : N < 2 ^ m'
    · have hS := Lib.hid (show setE n p m' N = 0 from by unfold setE; rw [if_pos hE]; simp [hN])
      have hq' : ((N : Int) / 2 ^ m' != 0) = false := by rw [hq]; simp [hN]
      rw [hS.out]
      clear hq hN hE
      go_enter Tryd.func68, Tryd.ntmps68
      go_wp2_with (go_at_call 78; refine (check_any _ _ _ _ _ _ hn p2).mono ?_; rw [hE'.out]; rintro e w' ⟨rfl, rfl⟩)
      go_ret
      exact ⟨rfl, rfl⟩
    · have hS := Lib.hid (show setE n p m' N = 10 from by unfold setE; rw [if_pos hE]; simp [hN])
      have hq' : ((N : Int) / 2 ^ m' != 0) = true := by rw [hq]; simp [hN]
      rw [hS.out]
      clear hq hN hE
      go_enter Tryd.func68, Tryd.ntmps68
      go_wp2_with (go_at_call 78; refine (check_any _ _ _ _ _ _ hn p2).mono ?_; rw [hE'.out]; rintro e w' ⟨rfl, rfl⟩)
      go_ret
      exact ⟨rfl, rfl⟩
  · have hS := Lib.hid (show setE n p m N = getE n p m from by unfold setE; rw [if_neg hE])
    have hb : (getE n p m != 0) = true := by simpa using hE
    rw [hS.out]
    clear hE
    go_enter Tryd.func68, Tryd.ntmps68
    go_wp2_with (go_at_call 78; refine (check_any _ _ _ _ _ _ hn p2).mono ?_; rintro e w' ⟨rfl, rfl⟩)
    go_ret
    exact ⟨rfl, rfl⟩

theorem setE_ok {n : Nat} {p m : Int} {N : Nat} (h : setE n p m N = 0) : getE n p m = 0 ∧ N < 2 ^ m.toNat := by
  unfold setE at h
  split at h
  · split at h
    · exact ⟨‹_›, ‹_›⟩
    · omega
  · contradiction

theorem setV_bad {xs : List Nat} {hi : Bool} {n : Nat} {p m : Int} {N : Nat} (hx : xs.length = n) (h : setE n p m N ≠ 0) : setV xs hi p m N = [] := by unfold setV; rw [hx, if_neg h]
theorem setV_ok {xs : List Nat} {hi : Bool} {n p m N : Nat} (hx : xs.length = n) (h : setE n p m N = 0) : setV xs hi p m N = st xs hi p m N := by unfold setV; rw [hx, if_pos h]; simp
theorem st_lt (xs : List Nat) (hi : Bool) (p m N : Nat) : ∀ x ∈ st xs hi p m N, x < 256 := lay_lt _ _ _ _ _
theorem st_length (xs : List Nat) (hi : Bool) (p m N : Nat) : (st xs hi p m N).length = xs.length := lay_length _ _ _ _ _

set_option maxHeartbeats 400000 in
theorem setHigh_bad (A : Option Addr) (n c : Nat) (p m : Int) (N : Nat) (w : World) (hn : n ≤ 140737488355328) (p2 : p ≤ 9223372036854775807) (h : setE n p m N ≠ 0) :
    Calls Tryd.prog 35 #[.slice A n c, .int .i64 p, .int .i64 m, .int .u64 (N : Int)] w (Laid w [] (setE n p m N)) := by
  have hb : (setE n p m N != 0) = true := by simpa using h
  clear h
  go_enter Tryd.func35, Tryd.ntmps35
  go_wp2_with (go_at_call 68; refine (checkSet_any _ _ _ _ _ _ _ hn p2).mono ?_; rintro e w' ⟨rfl, rfl⟩)
  go_ret2
  exact ⟨none, 0, 0, rfl, Bs.nil _ _ _, Nat.le_refl _, by omega, Below.refl _ _⟩

set_option maxHeartbeats 400000 in
theorem setHigh_ok (A : Option Addr) (n c p m N : Nat) (xs : List Nat) (w : World) (h : Bs w w.heap.size A n xs) (hn : n ≤ 140737488355328) (hm : m ≤ 64) (hp : p + m ≤ 8 * n) (hN : N < 18446744073709551616) (hS0 : setE n p m N = 0) :
    Calls Tryd.prog 35 #[.slice A n c, .int .i64 (p : Int), .int .i64 (m : Int), .int .u64 (N : Int)] w (Laid w (st xs true p m N) 0) := by
  have hS := Lib.hid hS0
  rw [← turn_lay xs p m N hm h.2.1]
  have H := Lib.hid h
  have hR := Lib.hid (show rv N / 2 ^ (64 - m) < 18446744073709551616 from Nat.lt_of_le_of_lt (Nat.div_le_self _ _) (rv_lt N))
  clear h hS0
  go_enter Tryd.func35, Tryd.ntmps35
  go_wp2_with (first
    | (go_at_call 68; refine (checkSet_any _ _ _ _ _ _ _ hn (by omega)).mono ?_; rw [hS.out]; rintro e w' ⟨rfl, rfl⟩)
    | (go_at_call 70; refine (turn_any N m _ hN hm).mono ?_; rintro e w' ⟨rfl, rfl⟩)
    | (go_at_call 69; refine (write_any A n c p m (rv N / 2 ^ (64 - m)) true xs _ H.out hn hm hp hR.out).mono ?_; rintro e w1 ⟨g, rfl, hg, hblk, hb1⟩))
  go_ret2
  exact ⟨_, n, n, rfl, hblk.bs (lay_lt _ _ _ _ _) n (by rw [lay_length, H.out.1]), Nat.le_refl _, by omega, hb1⟩

theorem setHigh_any (A : Option Addr) (n c : Nat) (p m : Int) (N : Nat) (xs : List Nat) (w : World) (h : Bs w w.heap.size A n xs) (hn : n ≤ 140737488355328) (p2 : p ≤ 9223372036854775807) (hN : N < 18446744073709551616) :
    Calls Tryd.prog 35 #[.slice A n c, .int .i64 p, .int .i64 m, .int .u64 (N : Int)] w (Laid w (setV xs true p m N) (setE n p m N)) := by
  by_cases hS : setE n p m N = 0
  · obtain ⟨q1, q2, q3, q4⟩ := getE_ok (setE_ok hS).1
    obtain ⟨p', rfl⟩ := Int.eq_ofNat_of_zero_le q1
    obtain ⟨m', rfl⟩ := Int.eq_ofNat_of_zero_le q2
    rw [hS, setV_ok h.1 hS]
    exact setHigh_ok A n c p' m' N xs w h hn (by omega) (by omega) hN hS
  · rw [setV_bad h.1 hS]
    exact setHigh_bad A n c p m N w hn p2 hS
end Go.Proofs.YtgcijioiicmjiaaDoor
