/- The reference's clamp, New and At. -/
import Derived.Test.YtbpdaijmclcbdaaImAt
namespace Go.Proofs.Ytbpdaijmclcbdaa
open Go.RowKit
open Im

theorem clamp_any (z : Int) (w : World) :
    Calls Try.prog 44 #[.int .i64 z] w fun e w' => e = .returned (.int .i64 ((cl z : Nat) : Int)) ∧ w = w' := by
  have h := Lib.hid (cl_eq z)
  have hc : z < 0 ∨ (0 ≤ z ∧ 255 < z) ∨ (0 ≤ z ∧ z ≤ 255) := by omega
  rcases hc with h1 | ⟨h1, h2⟩ | ⟨h1, h2⟩
  · go_enter Try.func44, Try.ntmps44
    go_wp2
    go_ret
    exact ⟨ret_int (by rw [h.out]; omega), rfl⟩
  · go_enter Try.func44, Try.ntmps44
    go_wp2
    go_ret
    exact ⟨ret_int (by rw [h.out]; omega), rfl⟩
  · go_enter Try.func44, Try.ntmps44
    go_wp2
    go_ret
    exact ⟨ret_int (by rw [h.out]; omega), rfl⟩

theorem rnew_no (W H : Int) (w : World) (hs : ¬ szP W H) :
    Calls Try.prog 48 #[.int .i64 W, .int .i64 H] w fun e w' => e = .returned (.tuple #[img 0 0 none 0 0, .int .i64 1]) ∧ Below w.heap.size w w' := by
  unfold szP at hs
  have hc : W < 1 ∨ (1 ≤ W ∧ H < 1) ∨ (1 ≤ W ∧ 1 ≤ H ∧ 4096 < W) ∨ (1 ≤ W ∧ 1 ≤ H ∧ W ≤ 4096 ∧ 4096 < H) := by omega
  clear hs
  rcases hc with h1 | ⟨h1, h2⟩ | ⟨h1, h2, h3⟩ | ⟨h1, h2, h3, h4⟩
  · go_enter Try.func48, Try.ntmps48
    go_wp2
    refine bodyPost_ret (results_struct_tmp rfl _ _ w.heap.size 24 (imL 0 0 none 0 0) _ rfl (Row.new _ _ _) Try.underlying24 size_image) rfl ?_
    exact ⟨rfl, Below.box _ _⟩
  · go_enter Try.func48, Try.ntmps48
    go_wp2
    refine bodyPost_ret (results_struct_tmp rfl _ _ w.heap.size 24 (imL 0 0 none 0 0) _ rfl (Row.new _ _ _) Try.underlying24 size_image) rfl ?_
    exact ⟨rfl, Below.box _ _⟩
  · go_enter Try.func48, Try.ntmps48
    go_wp2
    refine bodyPost_ret (results_struct_tmp rfl _ _ w.heap.size 24 (imL 0 0 none 0 0) _ rfl (Row.new _ _ _) Try.underlying24 size_image) rfl ?_
    exact ⟨rfl, Below.box _ _⟩
  · go_enter Try.func48, Try.ntmps48
    go_wp2
    refine bodyPost_ret (results_struct_tmp rfl _ _ w.heap.size 24 (imL 0 0 none 0 0) _ rfl (Row.new _ _ _) Try.underlying24 size_image) rfl ?_
    exact ⟨rfl, Below.box _ _⟩

theorem rnew_ok (W H : Int) (n : Nat) (w : World) (hr : rightP W H n) :
    Calls Try.prog 48 #[.int .i64 W, .int .i64 H] w fun e w' => ∃ g, e = .returned (.tuple #[img W H (some ⟨g, 0, none⟩) n n, .int .i64 0]) ∧ w.heap.size ≤ g ∧ Pix w' g 5 (List.replicate n 0) ∧ Below w.heap.size w w' := by
  have hm := mul_sz hr.1
  have hW := wrap_area hr.1
  have hn := hr.2
  have hp : 4 * W * H = 4 * (W * H) := by rw [Int.mul_assoc]
  have hn2 : n ≤ 67108864 := by omega
  obtain ⟨a, b, c, d⟩ := hr.1
  have hmk := run_make_row' (P := Try.prog) 22 5 (.int .u8 0) 1 Try.underlying22 info_u8 rfl .i64 .i64 n (by omega) (by omega)
  rw [hn] at hmk
  clear hm hp
  go_enter Try.func48, Try.ntmps48
  go_wp2
  have r1 := (Row.new w 24 (imL W H (some ⟨w.heap.size + 1, 0, none⟩) n n)).old (.cells (madeCells #[.int .u8 0] n) 5)
  refine bodyPost_ret (results_struct_tmp rfl _ _ w.heap.size 24 (imL W H (some ⟨w.heap.size + 1, 0, none⟩) n n) _ rfl r1 Try.underlying24 size_image) rfl ?_
  refine ⟨w.heap.size + 1, rfl, by omega, ?_, ?_⟩
  · have := Pix.made (w.alloc (.cells (imL W H (some ⟨w.heap.size + 1, 0, none⟩) n n).toArray 24)) 5 n
    simpa using this
  · exact ((Below.refl w.heap.size w).alloc (Nat.le_refl _) _).alloc (by simp) _

set_option maxHeartbeats 1000000 in
theorem rat_any (v : Value) (W H : Int) (xs : List Nat) (x y : Int) (w : World) (h : Img w v W H xs) :
    Calls Try.prog 41 #[v, .int .i64 x, .int .i64 y] w fun e w' => e = .returned (.tuple #[arr (atV W H xs x y), .int .i64 (noE (atP W H xs x y))]) ∧ Below w.heap.size w w' := by
  obtain ⟨A, n, c, rfl, hn, hB⟩ := h
  have hl := hB.1
  have hT := Lib.hid (fun w => rright_any W H A n c w (by omega))
  obtain ⟨X, hX⟩ : ∃ X, X = ((w.alloc (.cells (imL W H A n c).toArray 24)).alloc (.cells #[.int .i64 0, .int .i64 0, .int .i64 0, .int .i64 0] 30)).alloc (.cells #[.int .i64 0, .int .i64 0, .int .i64 0, .int .i64 0] 30) := ⟨_, rfl⟩
  have N0 := Lib.hid (show Row X w.heap.size 24 (imL W H A n c) from hX ▸ (((Row.new w 24 (imL W H A n c)).old _).old _))
  have N1 := Lib.hid (show Row X (w.heap.size + 1) 30 (i64s [0, 0, 0, 0]) from by have := (Row.zero4 (w.alloc (.cells (imL W H A n c).toArray 24)) 30).old (.cells #[.int .i64 0, .int .i64 0, .int .i64 0, .int .i64 0] 30); rw [World.size_alloc] at this; exact hX ▸ this)
  have N2 := Lib.hid (show Row X (w.heap.size + 2) 30 (i64s [0, 0, 0, 0]) from by have := Row.zero4 ((w.alloc (.cells (imL W H A n c).toArray 24)).alloc (.cells #[.int .i64 0, .int .i64 0, .int .i64 0, .int .i64 0] 30)) 30; rw [World.size_alloc, World.size_alloc] at this; exact hX ▸ this)
  have NB := Lib.hid (show Below w.heap.size w X from hX ▸ ((((Below.refl w.heap.size w).alloc (Nat.le_refl _) _).alloc (by simp) _).alloc (by simp; omega) _))
  have HB := Lib.hid hB
  have L4' := Lib.hid (show ([0, 0, 0, 0] : List Int).length = ([0, 0, 0, 0] : List Int).length from rfl)
  have LZ' := Lib.hid (show (Try.prog.info? 30).map (·.size) = some ([0, 0, 0, 0] : List Int).length from size_texel)
  by_cases hr : rightP W H n
  · rw [decide_eq_true hr] at hT
    have hc : (0 ≤ x ∧ 0 ≤ y ∧ x < W ∧ y < H) ∨ x < 0 ∨ (0 ≤ x ∧ y < 0) ∨ (0 ≤ x ∧ 0 ≤ y ∧ W ≤ x) ∨ (0 ≤ x ∧ 0 ≤ y ∧ x < W ∧ H ≤ y) := by omega
    rcases hc with ⟨h1, h2, h3, h4⟩ | hno
    · have hp : atP W H xs x y := ⟨by rw [hl]; exact hr, h1, h3, h2, h4⟩
      rw [show atV W H xs x y = tex xs (plc W x y) from if_pos hp, show noE (atP W H xs x y) = 0 from if_pos hp]
      obtain ⟨e0, hpn, e1, e2, e3, e4, _⟩ := plc_ok hr hp.2
      obtain ⟨b, off, rfl, hb, hcs⟩ := hB.2.2 (by omega)
      have HC := Lib.hid hcs
      have HX := Lib.hid (fun i => hB.getD_lt i)
      have f1 : wrap64 (y * W) = y * W := wrap64_small _ (by omega) (by omega)
      have f2 : wrap64 (4 * (y * W + x)) = 4 * (y * W + x) := wrap64_small _ (by omega) (by omega)
      have f3 : wrap64 (y * W + x) = y * W + x := wrap64_small _ (by omega) (by omega)
      clear hp hr hB hcs
      rw [e0] at f2
      generalize plc W x y = p at *
      go_enter Try.func41, Try.ntmps41
      go_wp2_with (first
        | (go_at_call 51; with_reducible refine (hT.out _).mono ?_; rintro e w1 ⟨rfl, hb0⟩; have hb : Below X.heap.size X w1 := hX ▸ hb0; clear hb0; have M0 := Lib.hid (N0.out.below hb N0.out.lt); have M1 := Lib.hid (N1.out.below hb N1.out.lt); have M2 := Lib.hid (N2.out.below hb N2.out.lt); have MB := Lib.hid (NB.out.trans (hb.mono NB.out.size)); clear hb; have k0 := M0.out.cell 0 _ rfl; have k1 := M0.out.cell 1 _ rfl))
      have hmz := Lib.hid (show w.heap.size + 2 < X.heap.size from by rw [hX]; simp)
      go_loopw [9] (fun i wr => ∃ k : Nat, k ≤ 4 ∧ i = .int .i64 k ∧ Hid (Row wr w.heap.size 24 (imL W H (some ⟨b, off, none⟩) n c) ∧ Row wr (w.heap.size + 1) 30 (i64s [0, 0, 0, 0]) ∧ Row wr (w.heap.size + 2) 30 (i64s (texK xs p k)) ∧ Below w.heap.size w wr)) (fun i _ => 4 - (intOf i).toNat)
      case atStart => exact ⟨0, by omega, rfl, M0.out, M1.out, M2.out, MB.out⟩
      case round =>
        obtain ⟨k, hk, rfl, hI⟩ := hrel
        clear M0 M1 M2 MB k0 k1 N0 N1 N2 NB hX
        by_cases hlt : k < 4
        · have c0 := hI.out.1.cell 0 _ rfl
          have c2 := hI.out.1.cell 2 _ rfl
          have cx : wr.cell? ⟨b, off + (p + k), none⟩ = some (.int .u8 ((xs.getD (p + k) 0 : Nat) : Int)) := (hI.out.2.2.2.cell hb).trans (HC.out (p + k) (by omega))
          have hxs := Lib.hid (show texK xs p (k + 1) = (texK xs p k).set k (xs.getD (p + k) 0 : Nat) from rfl)
          have hX := HX.out (p + k)
          generalize xs.getD (p + k) 0 = Y at *
          have cw := hI.out.2.2.1.int k (by rw [texK_length]; exact hlt)
          have cf := hI.out.2.2.1.frozen k
          go_wp2
          go_roundw
          case rel =>
            refine ⟨k + 1, by omega, by go_num, ?_, ?_, ?_, hI.out.2.2.2.setCell (by show w.heap.size ≤ w.heap.size + 2; omega) _⟩
            · exact (heap_setCell_other wr ⟨w.heap.size + 2, k, none⟩ w.heap.size _ (by show w.heap.size ≠ w.heap.size + 2; omega)).trans hI.out.1
            · exact (heap_setCell_other wr ⟨w.heap.size + 2, k, none⟩ (w.heap.size + 1) _ (by show w.heap.size + 1 ≠ w.heap.size + 2; omega)).trans hI.out.2.1
            · rw [hxs.out, ← i64s_set]
              exact hI.out.2.2.1.set_ k _
          case measure => simp [intOf]; omega
        · obtain rfl : k = 4 := by omega
          have RT := Lib.hid (show Row wr (w.heap.size + 2) 30 (i64s (tex xs p)) from hI.out.2.2.1)
          have R0 := Lib.hid hI.out.2.1
          have LT := Lib.hid (show (tex xs p).length = ([0, 0, 0, 0] : List Int).length from tex_length xs p)
          have LS := Lib.hid (show (Try.prog.info? 30).map (·.size) = some (tex xs p).length from by rw [tex_length]; exact size_texel)
          go_wp2_with (first
            | (with_reducible refine wpList_load_ints rfl 30 (.tmp 8) rfl (w.heap.size + 2) rfl 30 (tex xs p) 4 3 RT.out Try.underlying30 LS.out ?_)
            | (with_reducible refine wpList_store_ints rfl 30 (.tmp 6) (.tmp 55) rfl rfl (w.heap.size + 1) rfl (tex xs p) rfl 30 [0, 0, 0, 0] R0.out LS.out LT.out ?_; intro w3 hr3))
          refine bodyPost_ret (results_array_tmp rfl _ _ (w.heap.size + 1) 30 (i64s (tex xs p)) 4 3 rfl hr3.row Try.underlying30 (by rw [i64s_length]; exact LS.out)) rfl ?_
          exact ⟨rfl, hr3.below _ _ (by omega) hI.out.2.2.2⟩
    · have HRR := hr
      obtain ⟨Z, hZ⟩ : ∃ Z : List Int, Z = [0, 0, 0, 0] := ⟨_, rfl⟩
      rw [← hZ] at N1 N2 L4' LZ'
      have L4 := L4'
      have LZ := LZ'
      clear L4' LZ'
      clear hr
      rcases hno with h1 | ⟨h1, h2⟩ | ⟨h1, h2, h3⟩ | ⟨h1, h2, h3, h4⟩
      · have hp : ¬ atP W H xs x y := by
          rintro ⟨hr', hi⟩
          unfold insP at hi
          omega
        rw [show atV W H xs x y = Z from by rw [hZ]; exact if_neg hp, show noE (atP W H xs x y) = 1 from if_neg hp]
        clear hp hB HRR hZ
        go_enter Try.func41, Try.ntmps41
        go_wp2_with (first
          | (go_at_call 51; with_reducible refine (hT.out _).mono ?_; rintro e w1 ⟨rfl, hb0⟩; have hb : Below X.heap.size X w1 := hX ▸ hb0; clear hb0; have M0 := Lib.hid (N0.out.below hb N0.out.lt); have M1 := Lib.hid (N1.out.below hb N1.out.lt); have M2 := Lib.hid (N2.out.below hb N2.out.lt); have MB := Lib.hid (NB.out.trans (hb.mono NB.out.size)); clear hb; have k0 := M0.out.cell 0 _ rfl; have k1 := M0.out.cell 1 _ rfl)
          | (with_reducible refine wpList_load_ints rfl 30 (.tmp 8) rfl (w.heap.size + 2) rfl 30 Z 4 3 M2.out Try.underlying30 LZ.out ?_)
          | (with_reducible refine wpList_store_ints rfl 30 (.tmp 6) (.tmp 34) rfl rfl (w.heap.size + 1) rfl Z rfl 30 Z M1.out LZ.out rfl ?_; intro w3 hr3))
        refine bodyPost_ret (results_array_tmp rfl _ _ (w.heap.size + 1) 30 (i64s Z) 4 3 rfl hr3.row Try.underlying30 (by rw [i64s_length]; exact LZ.out)) rfl ?_
        exact ⟨rfl, hr3.below _ _ (by omega) MB.out⟩
      · have hp : ¬ atP W H xs x y := by
          rintro ⟨hr', hi⟩
          unfold insP at hi
          omega
        rw [show atV W H xs x y = Z from by rw [hZ]; exact if_neg hp, show noE (atP W H xs x y) = 1 from if_neg hp]
        clear hp hB HRR hZ
        go_enter Try.func41, Try.ntmps41
        go_wp2_with (first
          | (go_at_call 51; with_reducible refine (hT.out _).mono ?_; rintro e w1 ⟨rfl, hb0⟩; have hb : Below X.heap.size X w1 := hX ▸ hb0; clear hb0; have M0 := Lib.hid (N0.out.below hb N0.out.lt); have M1 := Lib.hid (N1.out.below hb N1.out.lt); have M2 := Lib.hid (N2.out.below hb N2.out.lt); have MB := Lib.hid (NB.out.trans (hb.mono NB.out.size)); clear hb; have k0 := M0.out.cell 0 _ rfl; have k1 := M0.out.cell 1 _ rfl)
          | (with_reducible refine wpList_load_ints rfl 30 (.tmp 8) rfl (w.heap.size + 2) rfl 30 Z 4 3 M2.out Try.underlying30 LZ.out ?_)
          | (with_reducible refine wpList_store_ints rfl 30 (.tmp 6) (.tmp 34) rfl rfl (w.heap.size + 1) rfl Z rfl 30 Z M1.out LZ.out rfl ?_; intro w3 hr3))
        refine bodyPost_ret (results_array_tmp rfl _ _ (w.heap.size + 1) 30 (i64s Z) 4 3 rfl hr3.row Try.underlying30 (by rw [i64s_length]; exact LZ.out)) rfl ?_
        exact ⟨rfl, hr3.below _ _ (by omega) MB.out⟩
      · have hp : ¬ atP W H xs x y := by
          rintro ⟨hr', hi⟩
          unfold insP at hi
          omega
        rw [show atV W H xs x y = Z from by rw [hZ]; exact if_neg hp, show noE (atP W H xs x y) = 1 from if_neg hp]
        clear hp hB HRR hZ
        go_enter Try.func41, Try.ntmps41
        go_wp2_with (first
          | (go_at_call 51; with_reducible refine (hT.out _).mono ?_; rintro e w1 ⟨rfl, hb0⟩; have hb : Below X.heap.size X w1 := hX ▸ hb0; clear hb0; have M0 := Lib.hid (N0.out.below hb N0.out.lt); have M1 := Lib.hid (N1.out.below hb N1.out.lt); have M2 := Lib.hid (N2.out.below hb N2.out.lt); have MB := Lib.hid (NB.out.trans (hb.mono NB.out.size)); clear hb; have k0 := M0.out.cell 0 _ rfl; have k1 := M0.out.cell 1 _ rfl)
          | (with_reducible refine wpList_load_ints rfl 30 (.tmp 8) rfl (w.heap.size + 2) rfl 30 Z 4 3 M2.out Try.underlying30 LZ.out ?_)
          | (with_reducible refine wpList_store_ints rfl 30 (.tmp 6) (.tmp 34) rfl rfl (w.heap.size + 1) rfl Z rfl 30 Z M1.out LZ.out rfl ?_; intro w3 hr3))
        refine bodyPost_ret (results_array_tmp rfl _ _ (w.heap.size + 1) 30 (i64s Z) 4 3 rfl hr3.row Try.underlying30 (by rw [i64s_length]; exact LZ.out)) rfl ?_
        exact ⟨rfl, hr3.below _ _ (by omega) MB.out⟩
      · have hp : ¬ atP W H xs x y := by
          rintro ⟨hr', hi⟩
          unfold insP at hi
          omega
        rw [show atV W H xs x y = Z from by rw [hZ]; exact if_neg hp, show noE (atP W H xs x y) = 1 from if_neg hp]
        clear hp hB HRR hZ
        go_enter Try.func41, Try.ntmps41
        go_wp2_with (first
          | (go_at_call 51; with_reducible refine (hT.out _).mono ?_; rintro e w1 ⟨rfl, hb0⟩; have hb : Below X.heap.size X w1 := hX ▸ hb0; clear hb0; have M0 := Lib.hid (N0.out.below hb N0.out.lt); have M1 := Lib.hid (N1.out.below hb N1.out.lt); have M2 := Lib.hid (N2.out.below hb N2.out.lt); have MB := Lib.hid (NB.out.trans (hb.mono NB.out.size)); clear hb; have k0 := M0.out.cell 0 _ rfl; have k1 := M0.out.cell 1 _ rfl)
          | (with_reducible refine wpList_load_ints rfl 30 (.tmp 8) rfl (w.heap.size + 2) rfl 30 Z 4 3 M2.out Try.underlying30 LZ.out ?_)
          | (with_reducible refine wpList_store_ints rfl 30 (.tmp 6) (.tmp 34) rfl rfl (w.heap.size + 1) rfl Z rfl 30 Z M1.out LZ.out rfl ?_; intro w3 hr3))
        refine bodyPost_ret (results_array_tmp rfl _ _ (w.heap.size + 1) 30 (i64s Z) 4 3 rfl hr3.row Try.underlying30 (by rw [i64s_length]; exact LZ.out)) rfl ?_
        exact ⟨rfl, hr3.below _ _ (by omega) MB.out⟩
  · rw [decide_eq_false hr] at hT
    have hp : ¬ atP W H xs x y := by
      rintro ⟨hr', hi⟩
      rw [hl] at hr'
      exact hr hr'
    have HRR := hr
    clear hr
    obtain ⟨Z, hZ⟩ : ∃ Z : List Int, Z = [0, 0, 0, 0] := ⟨_, rfl⟩
    rw [← hZ] at N1 N2 L4' LZ'
    have L4 := L4'
    have LZ := LZ'
    clear L4' LZ'
    rw [show atV W H xs x y = Z from by rw [hZ]; exact if_neg hp, show noE (atP W H xs x y) = 1 from if_neg hp]
    clear hp hB HRR hZ
    go_enter Try.func41, Try.ntmps41
    go_wp2_with (first
      | (go_at_call 51; with_reducible refine (hT.out _).mono ?_; rintro e w1 ⟨rfl, hb0⟩; have hb : Below X.heap.size X w1 := hX ▸ hb0; clear hb0; have M0 := Lib.hid (N0.out.below hb N0.out.lt); have M1 := Lib.hid (N1.out.below hb N1.out.lt); have M2 := Lib.hid (N2.out.below hb N2.out.lt); have MB := Lib.hid (NB.out.trans (hb.mono NB.out.size)); clear hb; have k0 := M0.out.cell 0 _ rfl; have k1 := M0.out.cell 1 _ rfl)
      | (with_reducible refine wpList_load_ints rfl 30 (.tmp 8) rfl (w.heap.size + 2) rfl 30 Z 4 3 M2.out Try.underlying30 LZ.out ?_)
      | (with_reducible refine wpList_store_ints rfl 30 (.tmp 6) (.tmp 34) rfl rfl (w.heap.size + 1) rfl Z rfl 30 Z M1.out LZ.out rfl ?_; intro w3 hr3))
    refine bodyPost_ret (results_array_tmp rfl _ _ (w.heap.size + 1) 30 (i64s Z) 4 3 rfl hr3.row Try.underlying30 (by rw [i64s_length]; exact LZ.out)) rfl ?_
    exact ⟨rfl, hr3.below _ _ (by omega) MB.out⟩
end Go.Proofs.Ytbpdaijmclcbdaa
