/- What write of package bits answers: a copy with bits laid, the first one the lowest. -/
import Derived.Test.YtpdpjljfloanfaaDoorBitRead
import Derived.Laws.CopyOwn
import Derived.Deep.OwnRows
set_option linter.all false
namespace Go.Proofs.YtpdpjljfloanfaaDoor
open Go.RowKit
open Bi

theorem info_u8 : (Tryd.prog.info? 5).map (fun i => (i.zero, i.size, i.bytes)) = some (some (.int .u8 0), 1, 1) := by kernel_rfl

/-- A new row of n bytes that reads as xs. -/
def Cloned (w : World) (n : Nat) (xs : List Nat) (e : Ending) (w' : World) : Prop :=
  ∃ g, e = .returned (.slice (some ⟨g, 0, none⟩) n n) ∧ w.heap.size ≤ g ∧ Blk w' g 5 xs ∧ Below w.heap.size w w'

theorem splice_all {α : Type} (L cs : List α) (h : L.length = cs.length) : splice L 0 cs = cs := by
  unfold splice
  rw [List.drop_of_length_le (by omega)]
  simp

theorem and_one (N s : Nat) (hN : N < 18446744073709551616) : bits .and .u64 ((N : Int) / 2 ^ s) 1 % 256 = (((N.testBit s).toNat : Nat) : Int) := by
  have h1 : N / 2 ^ s < 18446744073709551616 := Nat.lt_of_le_of_lt (Nat.div_le_self _ _) hN
  have := u64_and_nat (N / 2 ^ s) 1 h1 (by omega)
  rw [show ((1 : Nat) : Int) = 1 from rfl] at this
  rw [show (N : Int) / 2 ^ s = ((N / 2 ^ s : Nat) : Int) from by simp, this, nat_mask1, bit_div]
  have := b_lt (N.testBit s)
  omega

set_option maxHeartbeats 2000000 in
theorem write_any (A : Option Addr) (n c p m N : Nat) (hi : Bool) (xs : List Nat) (w : World) (h : Bs w w.heap.size A n xs) (hn : n ≤ 140737488355328) (hm : m ≤ 64) (hp : p + m ≤ 8 * n) (hN : N < 18446744073709551616) :
    Calls Tryd.prog 35 #[.slice A n c, .int .i64 (p : Int), .int .i64 (m : Int), .int .u64 (N : Int), .bool hi] w (Cloned w n (lay xs hi p m fun k => N.testBit k)) := by
  have hmk := run_make_row' (P := Tryd.prog) 22 5 (.int .u8 0) 1 Tryd.underlying22 info_u8 rfl .i64 .i64 n (by omega) (by omega)
  have hg := Lib.hid (show (w.alloc (.cells (madeCells #[.int .u8 0] n) 5)).heap[w.heap.size]? = some (.cells ((madeCells #[Value.int .u8 0] n).toList.toArray) 5 (0, 0)) from by
    rw [Array.toArray_toList]; exact heap_alloc_new w _)
  have hl := Lib.hid (show (u8s xs).length = Nat.min n n from by rw [u8s_length, h.1]; simp)
  have hpp := Lib.hid (show 0 < (u8s xs).length → some (⟨w.heap.size, 0, none⟩ : Addr) = some ⟨w.heap.size, 0, none⟩ ∧ ∃ ad, A = some ad ∧ ∀ j v, (u8s xs)[j]? = some v → (w.alloc (.cells (madeCells #[.int .u8 0] n) 5)).cell? (ad.add j) = some v from by
    intro h0
    rw [u8s_length, h.1] at h0
    obtain ⟨b, off, rfl, hb, hc⟩ := h.2.2 h0
    refine ⟨rfl, _, rfl, fun j v hj => ?_⟩
    have hjl : j < n := by
      rcases Nat.lt_or_ge j n with h | h'
      · exact h
      · rw [List.getElem?_eq_none (by rw [u8s_length, h.1]; exact h')] at hj; cases hj
    have hv : v = .int .u8 ((xs.getD j 0 : Nat) : Int) := by
      have hjx : j < xs.length := by rw [h.1]; exact hjl
      simp [u8s, List.getElem?_eq_getElem hjx] at hj
      rw [← hj]
      simp [List.getElem?_eq_getElem hjx]
    rw [hv, show (⟨b, off, none⟩ : Addr).add j = ⟨b, off + j, none⟩ from by unfold Addr.add; split <;> simp_all, World.cell?_alloc_lt w _ _ (by exact hb)]
    exact hc j hjl)
  have hf := Lib.hid (show 0 + (u8s xs).length ≤ (madeCells #[Value.int .u8 0] n).toList.length from by rw [u8s_length, h.1]; simp [size_madeCells])
  have hB := Lib.hid ((Below.refl w.heap.size w).alloc (Nat.le_refl _) (.cells (madeCells #[.int .u8 0] n) 5))
  have hx := Lib.hid h.1
  have hx2 := Lib.hid h.2.1
  have hz := Lib.hid (lay_zero xs hi p (fun k => N.testBit k) h.2.1)
  clear h
  go_enter Tryd.func35, Tryd.ntmps35
  go_wp2_with (with_reducible refine wpList_copy_splice rfl (.tmp 21) (.tmp 22) 22 22 rfl 5 Tryd.underlying22 size_u8 _ _ _ _ _ _ rfl rfl w.heap.size 0 _ 5 hg.out (u8s xs) hl.out hpp.out hf.out (u8s_one xs) w.heap.size w hB.out (Nat.le_refl _) ?_; intro w2 hg2 hb2)
  have hblk0 := Lib.hid (show Blk w2 w.heap.size 5 xs from by
    have := hg2.out
    rw [splice_all _ _ (by rw [u8s_length, hx.out]; simp [size_madeCells])] at this
    exact this)
  have hs2 : w.heap.size < w2.heap.size := hblk0.out.lt
  clear hg hl hpp hf hB hg2 hmk
  go_loopw [12] (fun i wr => ∃ k : Nat, k ≤ m ∧ i = .int .i64 k ∧ Blk wr w.heap.size 5 (lay xs hi p k fun k => N.testBit k) ∧ Below w.heap.size w wr) (fun i _ => m - (intOf i).toNat)
  case atStart => exact ⟨0, Nat.zero_le _, rfl, by rw [hz.out]; exact hblk0.out, hb2⟩
  case round =>
    obtain ⟨k, hk, rfl, hbl, hbw⟩ := hrel
    clear hblk0 hs2 hb2
    by_cases hlt : k < m
    · obtain ⟨q, hq⟩ : ∃ q, (p + k) / 8 = q := ⟨_, rfl⟩
      obtain ⟨f, hf⟩ : ∃ f, (p + k) % 8 = f := ⟨_, rfl⟩
      obtain ⟨e, he⟩ : ∃ e, min 8 ((p + k) % 8 + (m - k)) = e := ⟨_, rfl⟩
      have hqn : q < n := by omega
      have hf8 : f < 8 := by omega
      have hfe : f < e := by omega
      have he8 : e ≤ 8 := by omega
      have hem : k + (e - f) ≤ m := by omega
      have hcx := hbl.cell q (by rw [lay_length, hx.out]; omega)
      have hx8 := getD_lt' (lay_lt xs hi p k fun k => N.testBit k) q
      have HL := Lib.hid (show (lay xs hi p k fun k => N.testBit k).set q (nm (fun q' => if f ≤ pl q' hi ∧ pl q' hi < e then N.testBit (k + pl q' hi - f) else ((lay xs hi p k fun k => N.testBit k).getD q 0).testBit q') 8) = lay xs hi p (k + (e - f)) fun k => N.testBit k from by
        have := lay_byte xs hi p k (fun k => N.testBit k) e he8 (by omega) (by rw [hx.out]; omega)
        rw [hq, hf] at this
        exact this)
      generalize (lay xs hi p k fun k => N.testBit k).getD q 0 = x at *
      have HQ := Lib.hid hq
      have HF := Lib.hid hf
      have HE := Lib.hid he
      have hbl' := Lib.hid hbl
      clear hq hf he hbl
      go_wp2_with (first
        | (go_at_call 40; refine (window_at _ _ (p + k) (m - k) q f e _ (by omega) (by omega) (by omega) (by omega) HQ.out HF.out HE.out).mono ?_; rintro e w' ⟨rfl, rfl⟩)
        | (go_at_call 41; refine (split_any x hi _ hx8).mono ?_; rintro e w1 ⟨rfl, hb1⟩; have hz1 := Lib.hid (Blk.zero8 w1 68))
        | (with_reducible refine wpList_store_bytes rfl 68 (.tmp 16) (.tmp 43) rfl rfl w1.heap.size rfl _ rfl 68 _ hz1.out (by rw [bl_length]; exact info_row8) (bl_length _).symm ?_; intro w3 hr3))
      have hbw1 := hbw.trans (hb1.mono hbw.size)
      have hb3 := Lib.hid (hr3.below _ _ hbw1.size (hbw1.alloc hbw1.size _))
      have hlt1 : w.heap.size < w1.heap.size := Nat.lt_of_lt_of_le hbl'.out.lt hb1.size
      have hbl3 := Lib.hid (((hbl'.out.below hb1 hbl'.out.lt).old (.cells #[.int .u8 0, .int .u8 0, .int .u8 0, .int .u8 0, .int .u8 0, .int .u8 0, .int .u8 0, .int .u8 0] 68)).rowAt hr3 (by omega))
      have hblk := Lib.hid hr3.blk
      clear hr3 hz1 hb1 hbl' hbw1
      have hstart := Lib.hid (show Blk w3 w1.heap.size 68 (bl fun i => if f ≤ i ∧ i < f + 0 then N.testBit (k + i - f) else x.testBit (pl i hi)) from by
        rw [bl_congr (g := fun i => x.testBit (pl i hi)) (by intro i _; rw [if_neg (by omega)])]
        exact hblk.out)
      clear hblk
      go_loopw [12, 17] (fun i j wr => ∃ r : Nat, r ≤ e - f ∧ j = .int .i64 ((f + r : Nat) : Int) ∧ i = .int .i64 ((k + r : Nat) : Int) ∧ Blk wr w1.heap.size 68 (bl fun i => if f ≤ i ∧ i < f + r then N.testBit (k + i - f) else x.testBit (pl i hi)) ∧ Blk wr w.heap.size 5 (lay xs hi p k fun k => N.testBit k) ∧ Below w.heap.size w wr) (fun _ j _ => e - (intOf j).toNat)
      case atStart => exact ⟨0, Nat.zero_le _, rfl, rfl, hstart.out, hbl3.out, hb3.out⟩
      case round =>
        obtain ⟨r, hr, rfl, rfl, hba, hbc, hbe⟩ := hrel
        clear hstart hbl3 hb3
        by_cases hlr : r < e - f
        · have hca := hba.cell (f + r) (by rw [bl_length]; omega)
          have hfa := hba.frozen (f + r)
          go_wp2
          go_roundw
          case rel =>
            rw [and_one N (k + r) hN]
            refine ⟨r + 1, by omega, by go_num, by go_num, ?_, hbc.setCell_other (by omega) _, hbe.setCell (by exact Nat.le_of_lt hlt1) _⟩
            have := hba.setBit (f + r) (N.testBit (k + r))
            rw [bl_congr (g := fun i => if f ≤ i ∧ i < f + (r + 1) then N.testBit (k + i - f) else x.testBit (pl i hi)) (by
              intro i _
              by_cases h1 : i = f + r
              · subst h1
                rw [if_pos rfl, if_pos (by omega)]
                congr 1
                omega
              · rw [if_neg h1]
                by_cases h2 : f ≤ i ∧ i < f + r
                · rw [if_pos h2, if_pos (by omega)]
                · rw [if_neg h2, if_neg (by omega)])] at this
            exact this
          case measure => simp [intOf]; omega
        · obtain rfl : r = e - f := by omega
          go_wp2_with (first
            | (with_reducible refine wpList_load_bytes rfl 68 (.tmp 16) rfl w1.heap.size rfl 68 _ 8 5 hba Tryd.underlying68 (by rw [bl_length]; exact info_row8) ?_)
            | (go_at_call 43; refine (join_any _ hi _).mono ?_; rintro e' w5 ⟨rfl, hb5⟩; have hbc5 := hbc.below hb5 hbc.lt; have hcq := hbc5.cell q (by rw [lay_length, hx.out]; omega); have hfq := hbc5.frozen q))
          go_roundw
          case rel =>
            refine ⟨k + (e - f), hem, by go_num, ?_, (hbe.trans (hb5.mono hbe.size)).setCell (Nat.le_refl _) _⟩
            rw [← HL.out, nm_congr (g := fun q' => if f ≤ pl q' hi ∧ pl q' hi < e then N.testBit (k + pl q' hi - f) else x.testBit q') (by
              intro q' h8
              rw [pl_pl h8, show f + (e - f) = e by omega])]
            exact hbc5.set_ q _
          case measure => simp [intOf]; omega
    · obtain rfl : k = m := by omega
      go_wp2
      go_ret
      exact ⟨_, rfl, Nat.le_refl _, hbl, hbw⟩
end Go.Proofs.YtpdpjljfloanfaaDoor
