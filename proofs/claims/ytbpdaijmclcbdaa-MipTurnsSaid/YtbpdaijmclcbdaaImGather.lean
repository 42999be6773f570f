/- A tile gathered: package image. -/
import Derived.Test.YtbpdaijmclcbdaaImEach
namespace Go.Proofs.Ytbpdaijmclcbdaa
open Go.RowKit
open Im

set_option maxHeartbeats 400000 in
theorem gat1_at (W H X Y X' Y' : Int) (b off n c : Nat) (xs : List Nat) (ts : List Int) (bm bt k : Nat) (w : World) (hr : rightP W H n) (hB : Bs w w.heap.size (some ⟨b, off, none⟩) n xs)
    (hW : W ≤ 4096 ∧ H ≤ 4096 ∧ 1 ≤ W ∧ 1 ≤ H)
    (hm : Row w bm 24 (imL W H (some ⟨b, off, none⟩) n c)) (ht : Row w bt 32 (i64s ts)) (hl : ts.length = 64) (hk : k < 16)
    (hX : (W - 1 < X ∧ X' = W - 1) ∨ (X ≤ W - 1 ∧ X' = X)) (hY : (H - 1 < Y ∧ Y' = H - 1) ∨ (Y ≤ H - 1 ∧ Y' = Y)) (hi : insP X' Y' W H) :
    Calls Try.prog 38 #[.int .i64 (k : Int), .int .i64 X, .int .i64 Y, .pointer (some ⟨bm, 0, none⟩), .pointer (some ⟨bt, 0, none⟩)] w fun e w' => e = .returned (.tuple #[]) ∧ Row w' bt 32 (i64s (spl ts (k * 4) (tex xs (plc W X' Y')))) ∧ w.grownBy w' (some bt) := by
  have hR := Lib.hid (fun (u : World) (hu : Bs u u.heap.size (some ⟨b, off, none⟩) n xs) => read_any W H (some ⟨b, off, none⟩) n c X' Y' xs u hr hi hu)
  have HB := Lib.hid hB
  have LT := Lib.hid (tex_length xs (plc W X' Y'))
  obtain ⟨hw1, hw2, hw3, hw4⟩ := hW
  clear hr hB hi
  generalize tex xs (plc W X' Y') = t at *
  have LS := Lib.hid (show (Try.prog.info? 30).map (·.size) = some t.length from by rw [LT.out]; exact size_texel)
  have LL := Lib.hid (show k * 4 + t.length ≤ ts.length from by rw [LT.out, hl]; omega)
  have HM := Lib.hid hm
  have HT := Lib.hid ht
  have k0 := hm.cell 0 _ rfl
  have k1 := hm.cell 1 _ rfl
  clear hm ht
  rcases hX with ⟨hx1, rfl⟩ | ⟨hx1, rfl⟩ <;> rcases hY with ⟨hy1, rfl⟩ | ⟨hy1, rfl⟩ <;>
  · go_enter Try.func38, Try.ntmps38
    go_wp2_with (first
      | (with_reducible refine wpList_load_img rfl 24 (.tmp 3) rfl bm rfl 24 W H (some ⟨b, off, none⟩) n c _ HM.out Try.underlying24 size_image ?_)
      | (go_at_call 39; with_reducible refine (hR.out _ HB.out).mono ?_; rintro e w1 ⟨rfl, hb⟩; have HT1 := Lib.hid (HT.out.below hb HT.out.lt); have HB1 := Lib.hid hb; clear hb)
      | (with_reducible refine wpList_store_part rfl 30 (.tmp 21) (.tmp 20) rfl rfl bt (k * 4) rfl t rfl 32 ts HT1.out LS.out LL.out ?_; intro w2 hr2))
    go_end0
    exact ⟨rfl, hr2.row, (Below.gives HB1.out _).trans ⟨(hr2.below 0 _ (Nat.zero_le _) (Below.refl 0 _)).os, (hr2.below 0 _ (Nat.zero_le _) (Below.refl 0 _)).tape, (hr2.below 0 _ (Nat.zero_le _) (Below.refl 0 _)).output, Nat.le_of_eq hr2.size.symm, fun j _ hj => hr2.other j (fun e => hj (by rw [e]))⟩⟩
theorem Row.zero64 (w : World) (t : TypeId) : Row (w.alloc (.cells #[.int .i64 0, .int .i64 0, .int .i64 0, .int .i64 0, .int .i64 0, .int .i64 0, .int .i64 0, .int .i64 0, .int .i64 0, .int .i64 0, .int .i64 0, .int .i64 0, .int .i64 0, .int .i64 0, .int .i64 0, .int .i64 0, .int .i64 0, .int .i64 0, .int .i64 0, .int .i64 0, .int .i64 0, .int .i64 0, .int .i64 0, .int .i64 0, .int .i64 0, .int .i64 0, .int .i64 0, .int .i64 0, .int .i64 0, .int .i64 0, .int .i64 0, .int .i64 0, .int .i64 0, .int .i64 0, .int .i64 0, .int .i64 0, .int .i64 0, .int .i64 0, .int .i64 0, .int .i64 0, .int .i64 0, .int .i64 0, .int .i64 0, .int .i64 0, .int .i64 0, .int .i64 0, .int .i64 0, .int .i64 0, .int .i64 0, .int .i64 0, .int .i64 0, .int .i64 0, .int .i64 0, .int .i64 0, .int .i64 0, .int .i64 0, .int .i64 0, .int .i64 0, .int .i64 0, .int .i64 0, .int .i64 0, .int .i64 0, .int .i64 0, .int .i64 0] t)) w.heap.size t (i64s z64) := Row.newInts w t z64
theorem run_build_tile (w : World) : (Instr.build 32 #[]).run Try.prog w = .ok (arr z64) w := run_build w _ _ _ (by kernel_rfl)
theorem size_tile : (Try.prog.info? 32).map (·.size) = some 64 := by kernel_rfl
theorem z64_length : z64.length = 64 := by simp [z64]
namespace Im
def gatV (W H : Int) (xs : List Nat) (x y : Int) : List Int := if hasP W H xs.length x y then gatK W H xs x y 16 else z64
theorem gatV_length (W H : Int) (xs : List Nat) (x y : Int) : (gatV W H xs x y).length = 64 := by
  unfold gatV
  split
  · exact gatK_length _ _ _ _ _ _
  · exact z64_length
end Im

set_option maxHeartbeats 1000000 in
theorem gather_ok (b off n c : Nat) (W H : Int) (xs : List Nat) (x y : Int) (w : World) (hB : Bs w w.heap.size (some ⟨b, off, none⟩) n xs) (hn : n ≤ 67108864) (hp : hasP W H n x y) :
    Calls Try.prog 10 #[img W H (some ⟨b, off, none⟩) n c, .int .i64 x, .int .i64 y] w fun e w' => e = .returned (.tuple #[arr (gatK W H xs x y 16), .int .i64 0]) ∧ Below w.heap.size w w' := by
  obtain ⟨t1, t2, t3, t4, t5, t6⟩ := tl_in hp
  have hsz := hp.1.1
  have hT := Lib.hid (fun w => hasTile_any W H (some ⟨b, off, none⟩) n c x y w (by omega) (by unfold szP at hsz; omega) (by unfold szP at hsz; omega))
  rw [decide_eq_true hp] at hT
  have hbt := run_build_tile
  obtain ⟨X, hX⟩ : ∃ X, X = (w.alloc (.cells (imL W H (some ⟨b, off, none⟩) n c).toArray 24)).alloc (.cells (i64s z64).toArray 32) := ⟨_, rfl⟩
  have N0 := Lib.hid (show Row X w.heap.size 24 (imL W H (some ⟨b, off, none⟩) n c) from hX ▸ ((Row.new w 24 (imL W H (some ⟨b, off, none⟩) n c)).old _))
  have N1 := Lib.hid (show Row X (w.heap.size + 1) 32 (i64s z64) from by have := Row.newInts (w.alloc (.cells (imL W H (some ⟨b, off, none⟩) n c).toArray 24)) 32 z64; rw [World.size_alloc] at this; exact hX ▸ this)
  have NB := Lib.hid (show Below w.heap.size w X from hX ▸ (((Below.refl w.heap.size w).alloc (Nat.le_refl _) _).alloc (by simp) _))
  have NZ := Lib.hid (show X.heap.size = w.heap.size + 2 from by rw [hX]; simp)
  have HB := Lib.hid hB
  have hG := Lib.hid (fun (k bt : Nat) (u : World) (hk : k < 16) (hu : Row u w.heap.size 24 (imL W H (some ⟨b, off, none⟩) n c)) (ht : Row u bt 32 (i64s (gatK W H xs x y k))) (hb : Below w.heap.size w u) =>
    gat1_at W H (x * 4 + (k : Int) % 4) (y * 4 + (k : Int) / 4) _ _ b off n c xs (gatK W H xs x y k) w.heap.size bt k u hp.1 ((hB.below hb).more hb.size) (by unfold szP at hsz; omega) hu ht (gatK_length _ _ _ _ _ _) hk (mn_cases _ _) (mn_cases _ _) (mn_ins hp.1 (by omega) (by omega)))
  have LG := Lib.hid (show (gatK W H xs x y 16).length = z64.length from by rw [gatK_length, z64_length])
  have LS := Lib.hid (show (Try.prog.info? 32).map (·.size) = some (gatK W H xs x y 16).length from by rw [gatK_length]; exact size_tile)
  have LZ := Lib.hid (show (Try.prog.info? 32).map (·.size) = some z64.length from by rw [z64_length]; exact size_tile)
  have hz := Lib.hid (fun w => Row.zero64 w 32)
  clear hp hB hsz
  go_enter Try.func10, Try.ntmps10
  go_wp2_with (first
    | (go_at_call 36; refine (hT.out _).mono ?_; rintro e w1 ⟨rfl, hb0⟩; have hb : Below X.heap.size X w1 := (by rw [hX]; exact hb0); clear hb0; have M0 := Lib.hid (N0.out.below hb N0.out.lt); have M1 := Lib.hid (N1.out.below hb N1.out.lt); have MB := Lib.hid (NB.out.trans (hb.mono NB.out.size)); have MZ := Lib.hid (Nat.le_trans (Nat.le_of_eq NZ.out.symm) hb.size); clear hb N0 N1 NB NZ)
    | (with_reducible refine wpList_store_ints rfl 32 (.tmp 8) (.tmp 15) rfl rfl w1.heap.size rfl z64 rfl 32 z64 (hz.out w1) LZ.out rfl ?_; intro w2 hr2))
  have MZ' := MZ.out
  have P0 := Lib.hid (hr2.keep (by omega) (M0.out.old _))
  have P1 := Lib.hid (hr2.keep (by omega) (M1.out.old _))
  have PB := Lib.hid (hr2.below w.heap.size w (by omega) (MB.out.alloc (by omega) _))
  have hE := Lib.hid (each_gather (.pointer (some ⟨w.heap.size, 0, none⟩)) (.pointer (some ⟨w1.heap.size, 0, none⟩)) x y t1 (by omega) t3 (by omega)
    (fun k u => Row u w.heap.size 24 (imL W H (some ⟨b, off, none⟩) n c) ∧ Row u (w.heap.size + 1) 32 (i64s z64) ∧ Row u w1.heap.size 32 (i64s (gatK W H xs x y k)) ∧ Below w.heap.size w u) w2 ⟨P0.out, P1.out, hr2.row, PB.out⟩
    (fun k u hk ⟨u0, u1, u2, u3⟩ => (hG.out k w1.heap.size u hk u0 u2 u3).mono fun e u' ⟨he, hrow, hgr⟩ => ⟨he, u0.grown hgr (by simp; omega), u1.grown hgr (by simp; omega), hrow, u3.grown hgr u3.size (by intro j hj; cases hj; omega)⟩))
  clear hr2 M0 M1 MB MZ P0 P1 PB hG hz
  obtain ⟨T, hTT⟩ : ∃ T, T = gatK W H xs x y 16 := ⟨_, rfl⟩
  obtain ⟨Z, hZZ⟩ : ∃ Z, Z = z64 := ⟨_, rfl⟩
  rw [← hTT] at LS LG
  rw [← hZZ] at LG
  have HTT := Lib.hid hTT
  have HZZ := Lib.hid hZZ
  clear hTT hZZ
  go_wp2_with (first
    | (go_at_call 37; with_reducible refine hE.out.mono ?_; rintro e w3 ⟨rfl, hI⟩; have HI := Lib.hid hI.2.2.2; have HI1 := Lib.hid (show Row w3 (w.heap.size + 1) 32 (i64s Z) from (by rw [HZZ.out]; exact hI.2.1)); have HI2 := Lib.hid (show Row w3 w1.heap.size 32 (i64s T) from (by rw [HTT.out]; exact hI.2.2.1)); clear hI)
    | (with_reducible refine wpList_load_ints rfl 32 (.tmp 8) rfl w1.heap.size rfl 32 T 16 30 HI2.out Try.underlying32 LS.out ?_)
    | (with_reducible refine wpList_store_ints rfl 32 (.tmp 6) (.tmp 20) rfl rfl (w.heap.size + 1) rfl T rfl 32 Z HI1.out LS.out LG.out ?_; intro w4 hr4))
  refine bodyPost_ret (results_array_tmp rfl _ _ (w.heap.size + 1) 32 (i64s T) 16 30 rfl hr4.row Try.underlying32 (by rw [i64s_length]; exact LS.out)) rfl ?_
  exact ⟨by rw [← HTT.out]; rfl, hr4.below _ _ (by omega) HI.out⟩

set_option maxHeartbeats 1000000 in
theorem gather_no (A : Option Addr) (n c : Nat) (W H : Int) (x y : Int) (w : World) (hn : n ≤ 67108864) (hW : W ≤ 9223372036854775807) (hH : H ≤ 9223372036854775807) (hp : ¬ hasP W H n x y) :
    Calls Try.prog 10 #[img W H A n c, .int .i64 x, .int .i64 y] w fun e w' => e = .returned (.tuple #[arr z64, .int .i64 1]) ∧ Below w.heap.size w w' := by
  have hT := Lib.hid (fun w => hasTile_any W H A n c x y w (by omega) hW hH)
  rw [decide_eq_false hp] at hT
  have hbt := run_build_tile
  obtain ⟨X, hX⟩ : ∃ X, X = (w.alloc (.cells (imL W H A n c).toArray 24)).alloc (.cells (i64s z64).toArray 32) := ⟨_, rfl⟩
  have N1 := Lib.hid (show Row X (w.heap.size + 1) 32 (i64s z64) from by have := Row.newInts (w.alloc (.cells (imL W H A n c).toArray 24)) 32 z64; rw [World.size_alloc] at this; exact hX ▸ this)
  have NB := Lib.hid (show Below w.heap.size w X from hX ▸ (((Below.refl w.heap.size w).alloc (Nat.le_refl _) _).alloc (by simp) _))
  have LZ := Lib.hid (show (Try.prog.info? 32).map (·.size) = some z64.length from by rw [z64_length]; exact size_tile)
  clear hp
  go_enter Try.func10, Try.ntmps10
  go_wp2_with (first
    | (go_at_call 36; refine (hT.out _).mono ?_; rintro e w1 ⟨rfl, hb0⟩; have hb : Below X.heap.size X w1 := (by rw [hX]; exact hb0); clear hb0; have M1 := Lib.hid (N1.out.below hb N1.out.lt); have MB := Lib.hid (NB.out.trans (hb.mono NB.out.size)); clear hb N1 NB)
    | (with_reducible refine wpList_store_ints rfl 32 (.tmp 6) (.tmp 14) rfl rfl (w.heap.size + 1) rfl z64 rfl 32 z64 M1.out LZ.out rfl ?_; intro w2 hr2))
  refine bodyPost_ret (results_array_tmp rfl _ _ (w.heap.size + 1) 32 (i64s z64) 16 30 rfl hr2.row Try.underlying32 (by rw [i64s_length]; exact LZ.out)) rfl ?_
  exact ⟨rfl, hr2.below _ _ (by omega) MB.out⟩

theorem gather_any (v : Value) (W H : Int) (xs : List Nat) (x y : Int) (w : World) (h : Img w v W H xs) (hW : W ≤ 9223372036854775807) (hH : H ≤ 9223372036854775807) :
    Calls Try.prog 10 #[v, .int .i64 x, .int .i64 y] w fun e w' => e = .returned (.tuple #[arr (gatV W H xs x y), .int .i64 (noE (hasP W H xs.length x y))]) ∧ Below w.heap.size w w' := by
  obtain ⟨A, n, c, rfl, hn, hB⟩ := h
  have hl := hB.1
  unfold gatV noE
  rw [hl]
  by_cases hp : hasP W H n x y
  · rw [if_pos hp, if_pos hp]
    obtain ⟨b, off, rfl, _⟩ := hB.2.2 (right_pos hp.1)
    exact gather_ok b off n c W H xs x y w hB hn hp
  · rw [if_neg hp, if_neg hp]
    exact gather_no A n c W H x y w hn hW hH hp
end Go.Proofs.Ytbpdaijmclcbdaa
