/- A texel written, an image copied, a new one: package image. -/
import Derived.Test.YtbpdaijmclcbdaaImTexel
import Derived.Test.YtbpdaijmclcbdaaImPix
import Derived.Deep.OwnRows
import Derived.Lib.SliceRun
import Derived.Test.YtbpdaijmclcbdaaHeld
namespace Go.Proofs.Ytbpdaijmclcbdaa
open Go.RowKit
open Im

theorem size_int : (Try.prog.info? 3).map (·.size) = some 1 := by kernel_rfl
theorem index_chan (zs : List Int) (i : Nat) (hi : i < 4) (hn : zs.length = 4) (w : World) :
    (Instr.index 30 (arr zs) (.int .i64 (i : Int))).run Try.prog w = .ok (.int .i64 (zs.getD i 0)) w :=
  run_index_i64 _ _ 4 Try.underlying30 Try.underlying3 size_int zs i hi hn w

set_option maxHeartbeats 1000000 in
theorem write_any (W H : Int) (g n c : Nat) (x y : Int) (xs : List Nat) (t : List Int) (w : World) (hr : rightP W H n) (hi : insP x y W H) (hB : Pix w g 5 xs) (hl : xs.length = n) (ht : t.length = 4) :
    Calls Try.prog 55 #[img W H (some ⟨g, 0, none⟩) n c, .int .i64 x, .int .i64 y, arr t] w fun e w' => e = .returned (.tuple #[]) ∧ w.grownBy w' (some g) ∧ Pix w' g 5 (put xs (plc W x y) t) := by
  obtain ⟨_, hp, _, _, _, _, hn⟩ := plc_ok hr hi
  have hP := Lib.hid (fun w => place_any W H (some ⟨g, 0, none⟩) n c x y w hr hi)
  have HX := Lib.hid hB
  have hg : g < w.heap.size := hB.lt
  have LT := Lib.hid ht
  have LX := Lib.hid hl
  clear hr hi hB ht hl
  generalize plc W x y = p at *
  have R0 := Lib.hid ((Row.new w 24 (imL W H (some ⟨g, 0, none⟩) n c)).old (.cells (i64s t).toArray 30))
  have R1 := Lib.hid (Row.newInts (w.alloc (.cells (imL W H (some ⟨g, 0, none⟩) n c).toArray 24)) 30 t)
  go_enter Try.func55, Try.ntmps55
  go_wp2_with (first
    | (go_at_call 58; with_reducible refine (hP.out _).mono ?_; rintro e w1 ⟨rfl, hb1⟩; have HB := Lib.hid hb1; clear hb1; have T1 := Lib.hid (show Row w1 (w.heap.size + 1) 30 (i64s t) from by have := R1.out.below HB.out (by simp); simpa using this))
    | (with_reducible refine wpList_load_ints rfl 30 (.tmp 7) rfl (w.heap.size + 1) rfl 30 t 4 3 T1.out Try.underlying30 (by rw [LT.out]; exact size_texel) ?_))
  have B1 := Lib.hid (show Below w.heap.size w w1 from Below.fresh _ (Below.fresh _ HB.out))
  have T0 := Lib.hid (R0.out.below HB.out (by simp; omega))
  clear R0 R1 HB hP T1
  go_loopw [9, 10, 16] (fun _ _ i wr => ∃ k : Nat, k ≤ 4 ∧ i = .int .i64 k ∧ Hid (Row wr w.heap.size 24 (imL W H (some ⟨g, 0, none⟩) n c) ∧ Pix wr g 5 (putK xs p t k) ∧ w.grownBy wr (some g))) (fun _ _ i _ => 4 - (intOf i).toNat)
  case atStart => exact ⟨0, by omega, rfl, T0.out, HX.out.later B1.out, Below.gives B1.out _⟩
  case round =>
    obtain ⟨k, hk, rfl, hI⟩ := hrel
    clear T0 B1
    by_cases hlt : k < 4
    · have c2 := hI.out.1.cell 2 _ rfl
      have cw := hI.out.2.1.cell (p + k) (by rw [putK_length, LX.out]; omega)
      have cf := hI.out.2.1.frozen (p + k)
      have hxs := Lib.hid (show putK xs p t (k + 1) = (putK xs p t k).set (p + k) (cl (t.getD k 0)) from rfl)
      have hix := index_chan t k hlt LT.out
      have hcl2 := Lib.hid (cl_lt (t.getD k 0))
      generalize (putK xs p t k).getD (p + k) 0 = Y at *
      generalize t.getD k 0 = z at *
      go_wp2
      rw [cl_if]
      go_roundw
      case rel =>
        refine ⟨k + 1, by omega, by go_num, ?_, ?_, ?_⟩
        · exact (heap_setCell_other wr ⟨g, p + k, none⟩ w.heap.size _ (by show w.heap.size ≠ g; omega)).trans hI.out.1
        · rw [hxs.out]
          exact hI.out.2.1.set_ _ _ hcl2.out
        · exact hI.out.2.2.trans (grown_set _ _ _)
      case measure => simp [intOf]; omega
    · obtain rfl : k = 4 := by omega
      go_wp2
      go_end0
      exact ⟨rfl, hI.out.2.2, hI.out.2.1⟩

theorem size_image : (Try.prog.info? 24).map (·.size) = some 3 := by kernel_rfl
theorem info_u8 : (Try.prog.info? 5).map (fun i => (i.zero, i.size, i.bytes)) = some (some (.int .u8 0), 1, 1) := by kernel_rfl
/-- bytes.Clone of some bytes that are there. -/
theorem bclone_any (b off n c : Nat) (xs : List Nat) (w : World) (hB : Bs w w.heap.size (some ⟨b, off, none⟩) n xs) (h0 : 0 < n) (hn : n ≤ 67108864) :
    Calls Try.prog 52 #[.slice (some ⟨b, off, none⟩) n c] w fun e w' => ∃ g cap, e = .returned (.slice (some ⟨g, 0, none⟩) n cap) ∧ w.heap.size ≤ g ∧ Pix w' g 5 xs ∧ Below w.heap.size w w' := by
  have hm := Lib.hid (show (w.alloc (.cells #[] 5)).ownsRow w.heap.size 5 1 (.slice (some ⟨w.heap.size, 0, none⟩) 0 0) 0 (u8s []) from World.ownsRow_made w #[] 0 (Nat.le_refl _) (by simp [maxLen]) (by simp))
  have hs := Lib.hid (show Bs (w.alloc (.cells #[] 5)) w.heap.size (some ⟨b, off, none⟩) n xs from hB.below (Below.box w _))
  have HX := Lib.hid hB.2.1
  clear hB
  have hnil := Lib.run_eql_slice_nil (P := Try.prog) w 22 5 (some ⟨b, off, none⟩) n c 0 0 Try.underlying22
  go_enter Try.func52, Try.ntmps52
  go_wp2_with (at_builtin; refine wpList_append_bs rfl (.tmp 5) (.tmp 6) 22 rfl w.heap.size 5 Try.underlying22 info_u8 (.slice (some ⟨w.heap.size, 0, none⟩) 0 0) 0 [] rfl hm.out w.heap.size (some ⟨b, off, none⟩) n c xs rfl hs.out (by omega) (by simp) ?_; intro v1 w1 hown hgr)
  go_ret
  have hb : Below w.heap.size w w1 := (Below.box w _).grown hgr (by simp) (by simp [Value.ownBlock])
  rcases hown.2 with ⟨_, h'⟩ | ⟨g, cap, cur, rfl, hg, hh, _⟩
  · omega
  · refine ⟨g, cap, ?_, hg, ?_, hb⟩
    · simp
    · refine Pix.of_own (n := n) (cap := cap) (base := w.heap.size) ?_ HX.out
      simpa using hown
theorem Below.undrew {w w' : World} (h : Below w.drew.heap.size w.drew w') : Below w.heap.size w w' := ⟨h.os, h.tape, h.output, h.size, h.block⟩
theorem clone_any (W H : Int) (b off n c : Nat) (xs : List Nat) (w : World) (hB : Bs w w.heap.size (some ⟨b, off, none⟩) n xs) (h0 : 0 < n) (hn : n ≤ 67108864) :
    Calls Try.prog 42 #[img W H (some ⟨b, off, none⟩) n c] w fun e w' => ∃ g cap, e = .returned (img W H (some ⟨g, 0, none⟩) n cap) ∧ w.heap.size ≤ g ∧ Pix w' g 5 xs ∧ Below w.heap.size w w' := by
  have hB' := Lib.hid hB
  clear hB
  have R0 := Lib.hid ((Row.new w 24 (imL W H (some ⟨b, off, none⟩) n c)).old (.cells (imL 0 0 none 0 0).toArray 24))
  have R1 := Lib.hid (Row.new (w.alloc (.cells (imL W H (some ⟨b, off, none⟩) n c).toArray 24)) 24 (imL 0 0 none 0 0))
  have hC := Lib.hid (fun (u : World) (hu : Bs u u.heap.size (some ⟨b, off, none⟩) n xs) => bclone_any b off n c xs u hu h0 hn)
  have B2 := Lib.hid (((Below.refl w.heap.size w).alloc (Nat.le_refl _) (.cells (imL W H (some ⟨b, off, none⟩) n c).toArray 24)).alloc (by simp) (.cells (imL 0 0 none 0 0).toArray 24))
  have BS := Lib.hid ((hB'.out.below B2.out).more B2.out.size)
  go_enter Try.func42, Try.ntmps42
  go_wp2_with fail
  refine wp_region_held_drew (S := fun u => u.cell? ⟨w.heap.size, 0, none⟩ = some (.int .i64 W) ∧ u.cell? ⟨w.heap.size, 1, none⟩ = some (.int .i64 H) ∧ u.cell? ⟨w.heap.size, 2, none⟩ = some (.slice (some ⟨b, off, none⟩) n c)) (by kernel_rfl) ⟨R0.out.cell 0 _ rfl, R0.out.cell 1 _ rfl, R0.out.cell 2 _ rfl⟩ (fun kS => ?_)
  refine takeL (i := 0) (v := _) rfl (by kernel_rfl) (by kernel_rfl) (by kernel_rfl) (fun _ _ _ h => h) (Or.inl ⟨by rfl, (by intro u hSu; (try dsimp only at hSu); go_simp; try with_reducible rfl)⟩) kS ?_
  try simp only [Act.put, List.setIfInBounds_toArray, List.set_cons_zero, List.set_cons_succ]
  refine takeL (i := 1) (v := _) rfl (by kernel_rfl) (by kernel_rfl) (by kernel_rfl) (fun _ _ _ h => h) (Or.inl ⟨by rfl, (by intro u hSu; (try dsimp only at hSu); go_simp; try with_reducible rfl)⟩) kS ?_
  try simp only [Act.put, List.setIfInBounds_toArray, List.set_cons_zero, List.set_cons_succ]
  refine takeL (i := 2) (v := _) rfl (by kernel_rfl) (by kernel_rfl) (by kernel_rfl) (fun _ _ _ h => h) (Or.inl ⟨by rfl, (by intro u hSu; (try dsimp only at hSu); go_simp; try with_reducible rfl)⟩) kS ?_
  try simp only [Act.put, List.setIfInBounds_toArray, List.set_cons_zero, List.set_cons_succ]
  refine takeL (i := 3) (v := _) rfl (by kernel_rfl) (by kernel_rfl) (by kernel_rfl) (fun _ _ _ h => h) (Or.inl ⟨by rfl, (by intro u hSu; (try dsimp only at hSu); go_simp; try with_reducible rfl)⟩) kS ?_
  try simp only [Act.put, List.setIfInBounds_toArray, List.set_cons_zero, List.set_cons_succ]
  refine takeL (i := 4) (v := _) rfl (by kernel_rfl) (by kernel_rfl) (by kernel_rfl) (fun _ _ _ h => h) (Or.inl ⟨by rfl, (by intro u hSu; (try dsimp only at hSu); go_simp; try with_reducible rfl)⟩) kS ?_
  try simp only [Act.put, List.setIfInBounds_toArray, List.set_cons_zero, List.set_cons_succ]
  refine takeL (i := 5) (v := _) rfl (by kernel_rfl) (by kernel_rfl) (by kernel_rfl) (fun _ _ _ h => h) (Or.inl ⟨by rfl, (by intro u hSu; (try dsimp only at hSu); go_simp; try with_reducible rfl)⟩) kS ?_
  try simp only [Act.put, List.setIfInBounds_toArray, List.set_cons_zero, List.set_cons_succ]
  refine callL (i := 6) rfl (by kernel_rfl) (fun K hK => ?_)
  go_simp
  refine (hC.out _ BS.out.drew).mono ?_
  rintro e w3 ⟨g, cap, rfl, hg, hp, hb0⟩
  have hb := Below.undrew hb0
  have S0 := Lib.hid (R0.out.below hb (by simp; omega))
  have S1 := Lib.hid (R1.out.below hb (by simp))
  clear kS
  have kS : w3.cell? ⟨w.heap.size, 0, none⟩ = some (.int .i64 W) ∧ w3.cell? ⟨w.heap.size, 1, none⟩ = some (.int .i64 H) ∧ w3.cell? ⟨w.heap.size, 2, none⟩ = some (.slice (some ⟨b, off, none⟩) n c) := ⟨S0.out.cell 0 _ rfl, S0.out.cell 1 _ rfl, S0.out.cell 2 _ rfl⟩
  go_wp2_with fail
  refine hK.out _ _ kS (fun _ => ?_)
  clear hK K
  try simp only [Act.put, List.setIfInBounds_toArray, List.set_cons_zero, List.set_cons_succ]
  refine takeL (i := 7) (v := _) rfl (by kernel_rfl) (by kernel_rfl) (by kernel_rfl) (fun _ _ _ h => h) (Or.inl ⟨by rfl, (by intro u hSu; (try dsimp only at hSu); go_simp; try with_reducible rfl)⟩) kS ?_
  try simp only [Act.put, List.setIfInBounds_toArray, List.set_cons_zero, List.set_cons_succ]
  refine callL (i := 8) rfl (by kernel_rfl) (fun K hK => ?_)
  rw [if_pos (by kernel_rfl)]
  have hge : w.heap.size + 2 ≤ g := by simpa using hg
  have hw1 : Row w3 (w.heap.size + 1) 24 (imL 0 0 none 0 0) := by simpa using S1.out
  refine wp_store_img 24 (.tmp 2) (.tmp 10) rfl rfl (w.heap.size + 1) W H (some ⟨g, 0, none⟩) n cap rfl rfl 24 (imL 0 0 none 0 0) hw1 rfl size_image ?_
  intro w4 hs4
  have T0 := hs4.keep (by omega) S0.out
  refine hK.out _ _ ⟨T0.cell 0 _ rfl, T0.cell 1 _ rfl, T0.cell 2 _ rfl⟩ (fun _ => ?_)
  clear hK K
  refine wpAnyH_done (by kernel_rfl) ?_ _
  go_wp2_with fail
  refine bodyPost_ret (results_cell_row rfl _ _ (w.heap.size + 1) 24 (imL W H (some ⟨g, 0, none⟩) n cap).toArray (0, 0) _ rfl hs4.row Try.underlying24 rfl size_image) rfl ?_
  exact ⟨g, cap, rfl, by omega, hs4.pix (by omega) hp, hs4.below _ _ (by omega) (B2.out.trans (hb.mono (by simp; omega)))⟩

/-- A struct, or an array, and a number, as results. -/
theorem results_struct_tmp {fn : Func} {p q : Tmp} {ty : TypeId} {P : Program} (h : fn.results = #[.cell p ty, .tmp q]) (tmps : Array Value) (w : World) (g : Nat) (t : TypeId) (vs : List Value) (fs : Array Field)
    (hp : tmps.getD p undef = .pointer (some ⟨g, 0, none⟩)) (hg : Row w g t vs) (hu : P.underlying ty = some (.struct fs)) (hi : (P.info? ty).map (·.size) = some vs.length) :
    (results fn tmps).run P w = .ok (.tuple #[.agg vs.toArray, tmps.getD q undef]) w := by
  have hp' : tmps[p]?.getD undef = .pointer (some ⟨g, 0, none⟩) := by simpa using hp
  simp [results, h, hp', asAddr, run_loadVar_row w g t ty vs.toArray (0, 0) (.struct fs) hg hu rfl (by simpa using hi)]
theorem results_array_tmp {fn : Func} {p q : Tmp} {ty : TypeId} {P : Program} (h : fn.results = #[.cell p ty, .tmp q]) (tmps : Array Value) (w : World) (g : Nat) (t : TypeId) (vs : List Value) (k : Nat) (e : TypeId)
    (hp : tmps.getD p undef = .pointer (some ⟨g, 0, none⟩)) (hg : Row w g t vs) (hu : P.underlying ty = some (.array k e)) (hi : (P.info? ty).map (·.size) = some vs.length) :
    (results fn tmps).run P w = .ok (.tuple #[.agg vs.toArray, tmps.getD q undef]) w := by
  have hp' : tmps[p]?.getD undef = .pointer (some ⟨g, 0, none⟩) := by simpa using hp
  simp [results, h, hp', asAddr, run_loadVar_row w g t ty vs.toArray (0, 0) (.array k e) hg hu rfl (by simpa using hi)]

theorem new_no (W H : Int) (w : World) (hs : ¬ szP W H) :
    Calls Try.prog 33 #[.int .i64 W, .int .i64 H] w fun e w' => e = .returned (.tuple #[img 0 0 none 0 0, .int .i64 1]) ∧ Below w.heap.size w w' := by
  have hS := Lib.hid (fun w => isSize_any W H w)
  rw [decide_eq_false hs] at hS
  clear hs
  go_enter Try.func33, Try.ntmps33
  go_wp2_with (go_at_call 49; with_reducible refine (hS.out _).mono ?_; rintro e w' ⟨rfl, rfl⟩)
  refine bodyPost_ret (results_struct_tmp rfl _ _ w.heap.size 24 (imL 0 0 none 0 0) _ rfl (Row.new _ _ _) Try.underlying24 size_image) rfl ?_
  exact ⟨rfl, Below.box _ _⟩

theorem new_ok (W H : Int) (n : Nat) (w : World) (hr : rightP W H n) :
    Calls Try.prog 33 #[.int .i64 W, .int .i64 H] w fun e w' => ∃ g, e = .returned (.tuple #[img W H (some ⟨g, 0, none⟩) n n, .int .i64 0]) ∧ w.heap.size ≤ g ∧ Pix w' g 5 (List.replicate n 0) ∧ Below w.heap.size w w' := by
  have hS := Lib.hid (fun w => isSize_any W H w)
  rw [decide_eq_true hr.1] at hS
  have hm := mul_sz hr.1
  have hW := wrap_area hr.1
  have hn := hr.2
  have hp : 4 * W * H = 4 * (W * H) := by rw [Int.mul_assoc]
  have hn2 : n ≤ 67108864 := by omega
  obtain ⟨a, b, c, d⟩ := hr.1
  have hmk := run_make_row' (P := Try.prog) 22 5 (.int .u8 0) 1 Try.underlying22 info_u8 rfl .i64 .i64 n (by omega) (by omega)
  rw [hn] at hmk
  clear hm hp
  go_enter Try.func33, Try.ntmps33
  go_wp2_with (go_at_call 49; with_reducible refine (hS.out _).mono ?_; rintro e w' ⟨rfl, rfl⟩)
  have r1 := (Row.new w 24 (imL W H (some ⟨w.heap.size + 1, 0, none⟩) n n)).old (.cells (madeCells #[.int .u8 0] n) 5)
  refine bodyPost_ret (results_struct_tmp rfl _ _ w.heap.size 24 (imL W H (some ⟨w.heap.size + 1, 0, none⟩) n n) _ rfl r1 Try.underlying24 size_image) rfl ?_
  refine ⟨w.heap.size + 1, rfl, by omega, ?_, ?_⟩
  · have := Pix.made (w.alloc (.cells (imL W H (some ⟨w.heap.size + 1, 0, none⟩) n n).toArray 24)) 5 n
    simpa using this
  · exact ((Below.refl w.heap.size w).alloc (Nat.le_refl _) _).alloc (by simp) _
end Go.Proofs.Ytbpdaijmclcbdaa
