/- A texel of an image, read and written: package image. -/
import Derived.Test.YtbpdaijmclcbdaaImPlain
namespace Go.Proofs.Ytbpdaijmclcbdaa
open Go.RowKit
open Im

theorem place_any (W H : Int) (A : Option Addr) (n c : Nat) (x y : Int) (w : World) (hr : rightP W H n) (hi : insP x y W H) :
    Calls Try.prog 58 #[img W H A n c, .int .i64 x, .int .i64 y] w fun e w' => e = .returned (.int .i64 (plc W x y : Int)) ∧ Below w.heap.size w w' := by
  obtain ⟨hp, _, h0, h1, h2, h3, _⟩ := plc_ok hr hi
  have e1 : wrap64 (y * W) = y * W := wrap64_small _ (by omega) (by omega)
  have e2 : wrap64 (4 * (y * W + x)) = 4 * (y * W + x) := wrap64_small _ (by omega) (by omega)
  have e3 : wrap64 (y * W + x) = y * W + x := wrap64_small _ (by omega) (by omega)
  rw [← hp]
  clear hp hr hi
  go_enter Try.func58, Try.ntmps58
  go_wp2
  go_ret
  exact ⟨rfl, Below.box _ _⟩

theorem size_texel : (Try.prog.info? 30).map (·.size) = some 4 := by kernel_rfl
theorem built_texel (w : World) : (Instr.build 30 #[]).run Try.prog w = .ok (arr [0, 0, 0, 0]) w := run_build w _ _ _ (by kernel_rfl)
set_option maxHeartbeats 1000000 in
theorem read_any (W H : Int) (A : Option Addr) (n c : Nat) (x y : Int) (xs : List Nat) (w : World) (hr : rightP W H n) (hi : insP x y W H) (hB : Bs w w.heap.size A n xs) :
    Calls Try.prog 39 #[img W H A n c, .int .i64 x, .int .i64 y] w fun e w' => e = .returned (arr (tex xs (plc W x y))) ∧ Below w.heap.size w w' := by
  obtain ⟨_, hp, _, _, _, _, hn⟩ := plc_ok hr hi
  have hP := Lib.hid (fun w => place_any W H A n c x y w hr hi)
  obtain ⟨b, off, rfl, hb, hc⟩ := hB.2.2 (by omega)
  have HC := Lib.hid hc
  have HX := Lib.hid (fun i => hB.getD_lt i)
  clear hr hi hc hB
  generalize plc W x y = p at *
  have R0 := Lib.hid ((Row.new w 24 (imL W H (some ⟨b, off, none⟩) n c)).old (.cells #[.int .i64 0, .int .i64 0, .int .i64 0, .int .i64 0] 30))
  have R1 := Lib.hid (Row.zero4 (w.alloc (.cells (imL W H (some ⟨b, off, none⟩) n c).toArray 24)) 30)
  go_enter Try.func39, Try.ntmps39
  go_wp2_with (go_at_call 58; with_reducible refine (hP.out _).mono ?_; rintro e w1 ⟨rfl, hb1⟩; have HB := Lib.hid hb1; clear hb1)
  have B1 := Lib.hid (show Below w.heap.size w w1 from Below.fresh _ (Below.fresh _ HB.out))
  have hlt1 := Lib.hid (show w.heap.size + 2 ≤ w1.heap.size from by have := HB.out.size; simpa using this)
  have T0 := Lib.hid (R0.out.below HB.out (by simp; omega))
  have T1 := Lib.hid (show Row w1 (w.heap.size + 1) 30 (i64s [0, 0, 0, 0]) from by have := R1.out.below HB.out (by simp); simpa using this)
  clear R0 R1 HB hP
  go_loopw [9, 15] (fun _ i wr => ∃ k : Nat, k ≤ 4 ∧ i = .int .i64 k ∧ Hid (Row wr w.heap.size 24 (imL W H (some ⟨b, off, none⟩) n c) ∧ Row wr (w.heap.size + 1) 30 (i64s [0, 0, 0, 0]) ∧ Row wr w1.heap.size 30 (i64s (texK xs p k)) ∧ Below w.heap.size w wr)) (fun _ i _ => 4 - (intOf i).toNat)
  case atStart => exact ⟨0, by omega, rfl, T0.out.old _, T1.out.old _, Row.zero4 _ _, B1.out.alloc B1.out.size _⟩
  case round =>
    obtain ⟨k, hk, rfl, hI⟩ := hrel
    clear T0 T1
    by_cases hlt : k < 4
    · have c2 := hI.out.1.cell 2 _ rfl
      have cx : wr.cell? ⟨b, off + (p + k), none⟩ = some (.int .u8 ((xs.getD (p + k) 0 : Nat) : Int)) := (hI.out.2.2.2.cell hb).trans (HC.out (p + k) (by omega))
      have hxs := Lib.hid (show texK xs p (k + 1) = (texK xs p k).set k (xs.getD (p + k) 0 : Nat) from rfl)
      have hX := HX.out (p + k)
      generalize xs.getD (p + k) 0 = X at *
      have cw := hI.out.2.2.1.int k (by rw [texK_length]; exact hlt)
      have cf := hI.out.2.2.1.frozen k
      go_wp2
      go_roundw
      case rel =>
        have h1 := hlt1.out
        have h2 := B1.out.size
        refine ⟨k + 1, by omega, by go_num, ?_, ?_, ?_, hI.out.2.2.2.setCell (by show w.heap.size ≤ w1.heap.size; omega) _⟩
        · exact (heap_setCell_other wr ⟨w1.heap.size, k, none⟩ w.heap.size _ (by show w.heap.size ≠ w1.heap.size; omega)).trans hI.out.1
        · exact (heap_setCell_other wr ⟨w1.heap.size, k, none⟩ (w.heap.size + 1) _ (by show w.heap.size + 1 ≠ w1.heap.size; omega)).trans hI.out.2.1
        · rw [hxs.out, ← i64s_set]
          exact hI.out.2.2.1.set_ k _
      case measure => simp [intOf]; omega
    · obtain rfl : k = 4 := by omega
      have RT := Lib.hid (show Row wr w1.heap.size 30 (i64s (tex xs p)) from hI.out.2.2.1)
      have R0 := Lib.hid hI.out.2.1
      have LT := Lib.hid (show (tex xs p).length = ([0, 0, 0, 0] : List Int).length from tex_length xs p)
      go_wp2_with (first
        | (with_reducible refine wpList_load_ints rfl 30 (.tmp 7) rfl w1.heap.size rfl 30 (tex xs p) 4 3 RT.out Try.underlying30 (by rw [tex_length]; exact size_texel) ?_)
        | (with_reducible refine wpList_store_ints rfl 30 (.tmp 6) (.tmp 29) rfl rfl (w.heap.size + 1) rfl (tex xs p) rfl 30 [0, 0, 0, 0] R0.out (by rw [tex_length]; exact size_texel) LT.out ?_; intro w3 hr3))
      refine bodyPost_ret (results_ints rfl _ (w.heap.size + 1) 30 (tex xs p) 4 3 rfl hr3.row Try.underlying30 (by rw [tex_length]; exact size_texel)) rfl ?_
      exact ⟨rfl, hr3.below _ _ (by omega) hI.out.2.2.2⟩
end Go.Proofs.Ytbpdaijmclcbdaa
