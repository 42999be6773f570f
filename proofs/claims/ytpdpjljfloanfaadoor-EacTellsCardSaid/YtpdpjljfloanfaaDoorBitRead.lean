/- What read of package bits answers: the number of so many bits, the first one the lowest. -/
import Derived.Test.YtpdpjljfloanfaaDoorBitCut
set_option linter.all false
namespace Go.Proofs.YtpdpjljfloanfaaDoor
open Go.RowKit
open Bi

theorem shl_u64 (b : Bool) (s : Nat) (hs : s < 64) : IntKind.u64.wrap (IntKind.u64.wrap (b.toNat : Int) * 2 ^ s) = ((b.toNat * 2 ^ s : Nat) : Int) := by
  have h1 : 2 ^ s ≤ 2 ^ 63 := Nat.pow_le_pow_right (by omega) (by omega)
  have h0 := b_lt b
  have h2 : b.toNat * 2 ^ s ≤ 1 * 2 ^ 63 := Nat.mul_le_mul (by omega) h1
  have e : ((b.toNat : Int) * 2 ^ s) = ((b.toNat * 2 ^ s : Nat) : Int) := by simp
  rw [show IntKind.u64.wrap (b.toNat : Int) = (b.toNat : Int) from by rw [IntKind.wrap_u64]; omega, e, IntKind.wrap_u64]
  omega
theorem bit_lt (b : Bool) (s : Nat) (hs : s < 64) : b.toNat * 2 ^ s < 18446744073709551616 := by
  have h1 : 2 ^ s ≤ 2 ^ 63 := Nat.pow_le_pow_right (by omega) (by omega)
  have h2 : b.toNat * 2 ^ s ≤ 1 * 2 ^ 63 := Nat.mul_le_mul (by have := b_lt b; omega) h1
  omega
theorem rd_lt (xs : List Nat) (hi : Bool) (p m : Nat) (hm : m ≤ 64) : rd xs hi p m < 18446744073709551616 :=
  Nat.lt_of_lt_of_le (nm_lt _ m) (Nat.pow_le_pow_right (by omega) hm)

theorem Blk.zero8 (w : World) (t : TypeId) : Blk (w.alloc (.cells #[.int .u8 0, .int .u8 0, .int .u8 0, .int .u8 0, .int .u8 0, .int .u8 0, .int .u8 0, .int .u8 0] t)) w.heap.size t [0, 0, 0, 0, 0, 0, 0, 0] := Blk.new' w t [0, 0, 0, 0, 0, 0, 0, 0]

theorem len8 : Tryd.prog.arrayLen 68 = 8 := by kernel_rfl
theorem elem8 : Tryd.prog.elem 68 = 5 := by kernel_rfl
/-- A part of an array of eight bytes. -/
theorem slice8 (g f e : Nat) (hf : f < e) (he : e ≤ 8) (w : World) :
    (Instr.sliceAt 68 (.pointer (some ⟨g, 0, none⟩)) (some (.int .i64 (f : Int))) (some (.int .i64 (e : Int))) none).run Tryd.prog w = .ok (.slice (some ⟨g, f, none⟩) (e - f) (8 - f)) w := by
  rw [run_sliceAt_array_lh w 68 ⟨g, 0, none⟩ (by rw [len8, elem8]; exact Tryd.underlying68) .i64 .i64 (f : Int) (e : Int) (by omega) (by omega) (by rw [len8]; omega), elem8]
  have hs := size_u8
  cases hq : Tryd.prog.info? 5 with
  | none => simp [hq] at hs
  | some inf =>
    have hz : inf.size = 1 := by simpa [hq] using hs
    have h8 : ¬ 8 = f := by omega
    simp [slicedAt, sizeOf, typeInfo, hq, hz, len8, h8, add_at]

theorem window_at (P M : Int) (p m q f e : Nat) (w : World) (hP : P = (p : Int)) (hM : M = (m : Int)) (hp : p ≤ 9223372036854775807) (hm : m ≤ 64) (hq : p / 8 = q) (hf : p % 8 = f) (he : min 8 (p % 8 + m) = e) :
    Calls Tryd.prog 40 #[.int .i64 P, .int .i64 M] w fun e' w' => e' = .returned (.tuple #[.int .i64 (q : Int), .int .i64 (f : Int), .int .i64 (e : Int)]) ∧ w = w' := by
  subst hP hM hq hf he
  exact window_any p m w hp hm

set_option maxHeartbeats 1000000 in
theorem read_any (A : Option Addr) (n c p m : Nat) (hi : Bool) (xs : List Nat) (w : World) (h : Bs w w.heap.size A n xs) (hn : n ≤ 140737488355328) (hm : m ≤ 64) (hp : p + m ≤ 8 * n) :
    Calls Tryd.prog 32 #[.slice A n c, .int .i64 (p : Int), .int .i64 (m : Int), .bool hi] w fun e w' => e = .returned (.int .u64 ((rd xs hi p m : Nat) : Int)) ∧ Below w.heap.size w w' := by
  have H := Lib.hid h
  clear h
  go_enter Tryd.func32, Tryd.ntmps32
  go_wp2
  go_loopw [9, 10] (fun t i wr => ∃ k : Nat, k ≤ m ∧ i = .int .i64 k ∧ t = .int .u64 ((rd xs hi p k : Nat) : Int) ∧ Below w.heap.size w wr) (fun _ i _ => m - (intOf i).toNat)
  case atStart => exact ⟨0, Nat.zero_le _, rfl, rfl, Below.refl _ _⟩
  case round =>
    obtain ⟨k, hk, rfl, rfl, hbw⟩ := hrel
    by_cases hlt : k < m
    · obtain ⟨b, off, rfl, hb, hc⟩ := H.out.2.2 (by omega)
      obtain ⟨q, hq⟩ : ∃ q, (p + k) / 8 = q := ⟨_, rfl⟩
      obtain ⟨f, hf⟩ : ∃ f, (p + k) % 8 = f := ⟨_, rfl⟩
      obtain ⟨e, he⟩ : ∃ e, min 8 ((p + k) % 8 + (m - k)) = e := ⟨_, rfl⟩
      have hqn : q < n := by omega
      have hf8 : f < 8 := by omega
      have hfe : f < e := by omega
      have he8 : e ≤ 8 := by omega
      have hem : k + (e - f) ≤ m := by omega
      have hcx : wr.cell? ⟨b, off + q, none⟩ = some (.int .u8 ((xs.getD q 0 : Nat) : Int)) := (hbw.cell hb).trans (hc _ (by omega))
      have hx8 := H.out.getD_lt q
      have HBT := Lib.hid (show ∀ j, f + j < 8 → bt xs hi (p + (k + j)) = (xs.getD q 0).testBit (pl (f + j) hi) from fun j hj => by
        unfold bt
        rw [show (p + (k + j)) / 8 = q by omega, show (p + (k + j)) % 8 = f + j by omega])
      clear hc
      generalize xs.getD q 0 = x at *
      have HQ := Lib.hid hq
      have HF := Lib.hid hf
      have HE := Lib.hid he
      clear hq hf he
      have hsl := fun g w => slice8 g f e hfe he8 w
      go_wp2_with (first
        | (go_at_call 40; refine (window_at _ _ (p + k) (m - k) q f e _ (by omega) (by omega) (by omega) (by omega) HQ.out HF.out HE.out).mono ?_; rintro e w' ⟨rfl, rfl⟩)
        | (go_at_call 41; refine (split_any x hi _ hx8).mono ?_; rintro e w1 ⟨rfl, hb1⟩; have hz := Lib.hid (Blk.zero8 w1 68))
        | (with_reducible refine wpList_store_bytes rfl 68 (.tmp 14) (.tmp 36) rfl rfl w1.heap.size rfl _ rfl 68 _ hz.out (by rw [bl_length]; exact info_row8) (bl_length _).symm ?_; intro w2 hr2))
      have hbw1 := hbw.trans (hb1.mono hbw.size)
      have hb2 := Lib.hid (hr2.below _ _ hbw1.size (hbw1.alloc hbw1.size _))
      have hblk := Lib.hid hr2.blk
      clear hr2 hz hb1
      go_loop [9, 10, 41] (fun t i j => ∃ r : Nat, r ≤ e - f ∧ j = .int .i64 r ∧ i = .int .i64 ((k + r : Nat) : Int) ∧ t = .int .u64 ((rd xs hi p (k + r) : Nat) : Int)) (fun _ _ j => e - f - (intOf j).toNat)
      case atStart => exact ⟨0, Nat.zero_le _, rfl, rfl, rfl⟩
      case round =>
        obtain ⟨r, hr, rfl, rfl, rfl⟩ := hrel
        by_cases hlr : r < e - f
        · have hcr := hblk.out.cell (f + r) (by rw [bl_length]; omega)
          rw [bl_getD _ _ (by omega)] at hcr
          go_wp2
          go_round
          case rel =>
            refine ⟨r + 1, by omega, by go_num, by go_num, ?_⟩
            rw [shl_u64 _ _ (by omega), u64_or_nat _ _ (rd_lt _ _ _ _ (by omega)) (bit_lt _ _ (by omega)), ← HBT.out r (by omega), rd_step]
            rfl
          case measure => simp [intOf]; omega
        · obtain rfl : r = e - f := by omega
          go_wp2
          go_roundw
          case rel =>
            exact ⟨k + (e - f), hem, rfl, rfl, hb2.out⟩
          case measure => simp [intOf]; omega
    · obtain rfl : k = m := by omega
      go_wp2
      go_ret
      exact ⟨rfl, hbw⟩
end Go.Proofs.YtpdpjljfloanfaaDoor
