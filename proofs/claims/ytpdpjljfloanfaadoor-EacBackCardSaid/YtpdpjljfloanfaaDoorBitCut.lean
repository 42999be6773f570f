/- What split and join of package bits answer: the eight bits of a byte, and the byte of eight bits. -/
import Derived.Test.YtpdpjljfloanfaaDoorBitSmall
import Derived.Test.YtpdpjljfloanfaaDoorRowBytes
import Derived.Deep.QuietTactic
import Derived.BigQuiet
set_option linter.all false
namespace Go.Proofs.YtpdpjljfloanfaaDoor
open Go.RowKit
open Bi

/-- A row of eight bits, and memory that is new alone. -/
def Split (w : World) (f : Nat → Bool) (e : Ending) (w' : World) : Prop := e = .returned (.agg (u8s (bl f)).toArray) ∧ Below w.heap.size w w'

theorem size_u8 : (Tryd.prog.info? 5).map (·.size) = some 1 := by kernel_rfl
theorem info_row8 : (Tryd.prog.info? 68).map (·.size) = some 8 := by kernel_rfl
theorem Blk.setBit {w : World} {g : Nat} {t : TypeId} {f : Nat → Bool} (h : Blk w g t (bl f)) (i : Nat) (b : Bool) : Blk (w.setCell ⟨g, i, none⟩ (.int .u8 ((b.toNat : Nat) : Int))) g t (bl fun j => if j = i then b else f j) := by
  rw [← bl_set]
  exact h.set_ i _
theorem Blk.setCell_other {w : World} {g k i : Nat} {t : TypeId} {xs : List Nat} (h : Blk w g t xs) (hk : g ≠ k) (v : Value) : Blk (w.setCell ⟨k, i, none⟩ v) g t xs := (Below.heap_setCell w _ v g hk).trans h
theorem size_setCell (w : World) (a : Addr) (v : Value) : (w.setCell a v).heap.size = w.heap.size := by simp [World.setCell]

theorem shr_u8 (x s : Nat) (hx : x < 256) (hs : s < 8) : bits .and .u8 ((x : Int) / 2 ^ min s 8) 1 = (((x.testBit s).toNat : Nat) : Int) := by
  rw [Nat.min_eq_left (by omega), show (x : Int) / 2 ^ s = ((x / 2 ^ s : Nat) : Int) from by simp]
  have h1 : x / 2 ^ s < 256 := Nat.lt_of_le_of_lt (Nat.div_le_self _ _) hx
  have := u8_and_nat (x / 2 ^ s) 1 h1 (by omega)
  rw [show ((1 : Nat) : Int) = 1 from rfl] at this
  rw [this, nat_mask1, bit_div]

set_option maxHeartbeats 1000000 in
theorem split_any (x : Nat) (hi : Bool) (w : World) (h : x < 256) :
    Calls Tryd.prog 41 #[.int .u8 (x : Int), .bool hi] w (Split w fun i => x.testBit (pl i hi)) := by
  have hS0 := Lib.hid (show bl (fun i => decide (i < 0) && x.testBit (pl i hi)) = [0, 0, 0, 0, 0, 0, 0, 0] from by simp [bl, List.range, List.range.loop])
  have hb0 := Lib.hid (show Blk ((w.alloc (.cells (u8s [0, 0, 0, 0, 0, 0, 0, 0]).toArray 68)).alloc (.cells (u8s [0, 0, 0, 0, 0, 0, 0, 0]).toArray 68)) w.heap.size 68 [0, 0, 0, 0, 0, 0, 0, 0] from (Blk.new' w _ _).old _)
  have hb1 := Lib.hid (show Blk ((w.alloc (.cells (u8s [0, 0, 0, 0, 0, 0, 0, 0]).toArray 68)).alloc (.cells (u8s [0, 0, 0, 0, 0, 0, 0, 0]).toArray 68)) (w.heap.size + 1) 68 [0, 0, 0, 0, 0, 0, 0, 0] from by
    have := Blk.new' (w.alloc (.cells (u8s [0, 0, 0, 0, 0, 0, 0, 0]).toArray 68)) 68 [0, 0, 0, 0, 0, 0, 0, 0]
    simpa using this)
  have hbel := Lib.hid (show Below w.heap.size w ((w.alloc (.cells (u8s [0, 0, 0, 0, 0, 0, 0, 0]).toArray 68)).alloc (.cells (u8s [0, 0, 0, 0, 0, 0, 0, 0]).toArray 68)) from ((Below.refl _ _).alloc (Nat.le_refl _) _).alloc (by simp) _)
  go_enter Tryd.func41, Tryd.ntmps41
  go_wp2
  go_loopw [7] (fun i wr => ∃ k : Nat, k ≤ 8 ∧ i = .int .i64 k ∧ Blk wr (w.heap.size + 1) 68 (bl fun i => decide (i < k) && x.testBit (pl i hi)) ∧ Below w.heap.size w wr ∧ Blk wr w.heap.size 68 [0, 0, 0, 0, 0, 0, 0, 0]) (fun i _ => 8 - (intOf i).toNat)
  case atStart =>
    exact ⟨0, by omega, rfl, by rw [hS0.out]; exact hb1.out, hbel.out, hb0.out⟩
  case round =>
    obtain ⟨k, hk, rfl, hbl, hbw, hbz⟩ := hrel
    clear hS0 hb0 hb1 hbel
    by_cases hlt : k < 8
    · have hcx := hbl.cell k (by rw [bl_length]; omega)
      have hfx := hbl.frozen k
      go_wp2_with (go_at_call 45; refine (place_any k hi _ hlt).mono ?_; rintro e w' ⟨rfl, rfl⟩)
      go_roundw
      case rel =>
        rw [shr_u8 x _ h (pl_lt hlt hi)]
        refine ⟨k + 1, by omega, by go_num, ?_, hbw.setCell (by simp) _, hbz.setCell_other (by omega) _⟩
        have := hbl.setBit k (x.testBit (pl k hi))
        rw [bl_congr (g := fun i => decide (i < k + 1) && x.testBit (pl i hi)) (by
          intro i _
          by_cases h1 : i = k
          · subst h1; simp
          · simp [h1, show i < k + 1 ↔ i < k by omega])] at this
        exact this
      case measure => simp [intOf]; omega
    · obtain rfl : k = 8 := by omega
      go_wp2_with (first
        | (with_reducible refine wpList_load_bytes rfl 68 (.tmp 5) rfl (w.heap.size + 1) rfl 68 _ 8 5 hbl Tryd.underlying68 (by rw [bl_length]; exact info_row8) ?_)
        | (with_reducible refine wpList_store_bytes rfl 68 (.tmp 4) (.tmp 19) rfl rfl w.heap.size rfl _ rfl 68 _ hbz (by rw [bl_length]; exact info_row8) (bl_length _).symm ?_; intro w2 hr2))
      refine bodyPost_ret (results_bytes Tryd.results41 _ w.heap.size 68 _ 8 5 rfl hr2.blk Tryd.underlying68 (by rw [bl_length]; exact info_row8)) rfl ⟨?_, hr2.below _ _ (Nat.le_refl _) hbw⟩
      rw [bl_congr (g := fun i => x.testBit (pl i hi)) (by intro i h8; simp [h8])]

theorem shl_u8 (b : Bool) (s : Nat) (hs : s < 8) : ((b.toNat : Int) * 2 ^ min s 8 % 256) = ((b.toNat * 2 ^ s : Nat) : Int) := by
  rw [Nat.min_eq_left (by omega)]
  have h1 : 2 ^ s ≤ 2 ^ 7 := Nat.pow_le_pow_right (by omega) (by omega)
  have h2 : b.toNat * 2 ^ s ≤ 1 * 2 ^ 7 := Nat.mul_le_mul (by have := b_lt b; omega) h1
  have e : ((b.toNat : Int) * 2 ^ s) = ((b.toNat * 2 ^ s : Nat) : Int) := by simp
  rw [e]
  omega

/-- A byte of an array by value. -/
theorem run_index_u8 (t e : TypeId) (n : Nat) (hu : Tryd.prog.underlying t = some (.array n e)) (he : Tryd.prog.underlying e = some (.int .u8)) (hs : (Tryd.prog.info? e).map (·.size) = some 1) (xs : List Nat) (i : Nat) (hi : i < n) (hn : xs.length = n) (w : World) :
    (Instr.index t (.agg (u8s xs).toArray) (.int .i64 (i : Int))).run Tryd.prog w = .ok (.int .u8 ((xs.getD i 0 : Nat) : Int)) w := by
  cases hq : Tryd.prog.info? e with
  | none => simp [hq] at hs
  | some inf =>
    have hz : inf.size = 1 := by simpa [hq] using hs
    have hx : xs[i]? = some (xs[i]'(by omega)) := List.getElem?_eq_getElem (by omega)
    have hc : (0 : Int) ≤ (i : Int) ∧ (i : Int) < (n : Int) := by omega
    simp [Instr.index, run_underlying hu, run_underlying he, asIntOf, hc, go_sem, sizeOf, typeInfo, hq, hz, part, isAgg, u8s, hx]
    omega

set_option maxHeartbeats 1000000 in
theorem join_any (f : Nat → Bool) (hi : Bool) (w : World) :
    Calls Tryd.prog 43 #[.agg (u8s (bl f)).toArray, .bool hi] w fun e w' => e = .returned (.int .u8 ((nm (fun q => f (pl q hi)) 8 : Nat) : Int)) ∧ Below w.heap.size w w' := by
  have hb0 := Lib.hid (show Blk (w.alloc (.cells (u8s (bl f)).toArray 68)) w.heap.size 68 (bl f) from Blk.new' w _ _)
  have hbel := Lib.hid (show Below w.heap.size w (w.alloc (.cells (u8s (bl f)).toArray 68)) from (Below.refl _ _).alloc (Nat.le_refl _) _)
  have hj := Lib.hid (jn_full f hi)
  go_enter Tryd.func43, Tryd.ntmps43
  go_wp2_with (with_reducible refine wpList_load_bytes rfl 68 (.tmp 2) rfl w.heap.size rfl 68 _ 8 5 hb0.out Tryd.underlying68 (by rw [bl_length]; exact info_row8) ?_)
  go_loop [5, 9] (fun t i => ∃ k : Nat, k ≤ 8 ∧ i = .int .i64 k ∧ t = .int .u8 ((jn f hi k : Nat) : Int)) (fun _ i => 8 - (intOf i).toNat)
  case atStart => exact ⟨0, by omega, rfl, by rw [jn_zero]; rfl⟩
  case round =>
    obtain ⟨k, hk, rfl, rfl⟩ := hrel
    clear hb0
    by_cases hlt : k < 8
    · have hcx : ∀ w, (Instr.index 68 (.agg (u8s (bl f)).toArray) (.int .i64 (k : Int))).run Tryd.prog w = .ok (.int .u8 (((f k).toNat : Nat) : Int)) w := fun w => by
        rw [run_index_u8 _ _ 8 Tryd.underlying68 Tryd.underlying5 size_u8 _ _ hlt (bl_length f), bl_getD _ _ hlt]
      go_wp2_with (go_at_call 45; refine (place_any k hi _ hlt).mono ?_; rintro e w' ⟨rfl, rfl⟩)
      go_round
      case rel =>
        refine ⟨k + 1, by omega, by go_num, ?_⟩
        have h1 := pl_lt hlt hi
        have h2 : (f k).toNat * 2 ^ pl k hi < 256 := by
          have a : 2 ^ pl k hi ≤ 2 ^ 7 := Nat.pow_le_pow_right (by omega) (by omega)
          have b : (f k).toNat * 2 ^ pl k hi ≤ 1 * 2 ^ 7 := Nat.mul_le_mul (by have := b_lt (f k); omega) a
          omega
        rw [shl_u8 _ _ h1, u8_or_nat _ _ (jn_lt _ _ _) h2, jn_step _ _ _ hlt]
      case measure => simp [intOf]; omega
    · obtain rfl : k = 8 := by omega
      go_wp2
      go_ret
      exact ⟨ret_int (by rw [hj.out]), hbel.out⟩
end Go.Proofs.YtpdpjljfloanfaaDoor
