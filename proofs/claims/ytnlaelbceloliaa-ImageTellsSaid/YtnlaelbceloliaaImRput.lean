/- The reference's Put. -/
import Derived.Test.YtnlaelbceloliaaImRef
import Derived.StillTailTactics
import Derived.IntWalk
namespace Go.Proofs.Ytnlaelbceloliaa
open Go.RowKit
open Im

theorem clamp_still (z : Int) (w : World) : Calls Try.prog 32 #[.int .i64 z] w fun e w' => e = .returned (.int .i64 ((cl z : Nat) : Int)) ∧ w' = w :=
  (clamp_any z w).mono fun _ _ ⟨h, k⟩ => ⟨h, k.symm⟩

set_option maxHeartbeats 1000000 in
theorem rput_ok (A : Option Addr) (n c : Nat) (W H : Int) (xs : List Nat) (x y : Int) (t : List Int) (w : World) (hB : Bs w w.heap.size A n xs) (hn : n ≤ 67108864) (ht : t.length = 4) (hp : atP W H xs x y) :
    Calls Try.prog 12 #[img W H A n c, .int .i64 x, .int .i64 y, arr t] w fun e w' => ∃ v', e = .returned (.tuple #[v', .int .i64 0]) ∧ Img w' v' W H (put xs (plc W x y) t) ∧ Below w.heap.size w w' := by
  have hl := hB.1
  have hp' := hp
  unfold atP at hp'
  rw [hl] at hp'
  obtain ⟨e0, hpn, e1, e2, e3, e4, _⟩ := plc_ok hp'.1 hp'.2
  obtain ⟨b, off, rfl, _⟩ := hB.2.2 (by omega)
  have hT := Lib.hid (fun (u : World) (hu : Bs u u.heap.size (some ⟨b, off, none⟩) n xs) => rat_any (img W H (some ⟨b, off, none⟩) n c) W H xs x y u ⟨_, n, c, rfl, hn, hu⟩)
  rw [show noE (atP W H xs x y) = 0 from if_pos hp] at hT
  have LV := Lib.hid (show (atV W H xs x y).length = ([0, 0, 0, 0] : List Int).length from atV_length W H xs x y)
  have LVS := Lib.hid (show (Try.prog.info? 28).map (·.size) = some (atV W H xs x y).length from by rw [atV_length]; exact size_texel)
  obtain ⟨X, hX⟩ : ∃ X, X = ((w.alloc (.cells (imL W H (some ⟨b, off, none⟩) n c).toArray 24)).alloc (.cells (i64s t).toArray 28)).alloc (.cells (imL 0 0 none 0 0).toArray 24) := ⟨_, rfl⟩
  have N0 := Lib.hid (show Row X w.heap.size 24 (imL W H (some ⟨b, off, none⟩) n c) from hX ▸ (((Row.new w 24 (imL W H (some ⟨b, off, none⟩) n c)).old _).old _))
  have N1 := Lib.hid (show Row X (w.heap.size + 1) 28 (i64s t) from by have := (Row.newInts (w.alloc (.cells (imL W H (some ⟨b, off, none⟩) n c).toArray 24)) 28 t).old (.cells (imL 0 0 none 0 0).toArray 24); rw [World.size_alloc] at this; exact hX ▸ this)
  have N2 := Lib.hid (show Row X (w.heap.size + 2) 24 (imL 0 0 none 0 0) from by have := Row.new ((w.alloc (.cells (imL W H (some ⟨b, off, none⟩) n c).toArray 24)).alloc (.cells (i64s t).toArray 28)) 24 (imL 0 0 none 0 0); rw [World.size_alloc, World.size_alloc] at this; exact hX ▸ this)
  have NB := Lib.hid (show Below w.heap.size w X from hX ▸ ((((Below.refl w.heap.size w).alloc (Nat.le_refl _) _).alloc (by simp) _).alloc (by simp; omega) _))
  have NZ := Lib.hid (show X.heap.size = w.heap.size + 3 from by rw [hX]; simp)
  have HB := Lib.hid hB
  have HX := Lib.hid hB.2.1
  have NS := Lib.hid (show Bs (((w.alloc (.cells (imL W H (some ⟨b, off, none⟩) n c).toArray 24)).alloc (.cells (i64s t).toArray 28)).alloc (.cells (imL 0 0 none 0 0).toArray 24)) (((w.alloc (.cells (imL W H (some ⟨b, off, none⟩) n c).toArray 24)).alloc (.cells (i64s t).toArray 28)).alloc (.cells (imL 0 0 none 0 0).toArray 24)).heap.size (some ⟨b, off, none⟩) n xs from hX ▸ ((HB.out.below NB.out).more NB.out.size))
  have LP := Lib.hid (show ∀ k, (putK xs (plc W x y) t k).length = n from fun k => by rw [putK_length, hl])
  have f1 : wrap64 (y * W) = y * W := wrap64_small _ (by omega) (by omega)
  have f2 : wrap64 (4 * (y * W + x)) = 4 * (y * W + x) := wrap64_small _ (by omega) (by omega)
  have f3 : wrap64 (y * W + x) = y * W + x := wrap64_small _ (by omega) (by omega)
  rw [e0] at f2
  clear hp hp' hB
  show Calls _ _ _ _ fun e w' => ∃ v', e = .returned (.tuple #[v', .int .i64 0]) ∧ Img w' v' W H (putK xs (plc W x y) t 4) ∧ Below w.heap.size w w'
  generalize atV W H xs x y = tt at *
  generalize plc W x y = p at *
  go_enter Try.func12, Try.ntmps12
  go_wp2_with (first
    | (go_at_call 10; with_reducible refine (hT.out _ NS.out).mono ?_; rintro e w1 ⟨rfl, hb0⟩; have hb : Below X.heap.size X w1 := hX ▸ hb0; clear hb0; have M0 := Lib.hid (N0.out.below hb N0.out.lt); have M1 := Lib.hid (N1.out.below hb N1.out.lt); have M2 := Lib.hid (N2.out.below hb N2.out.lt); have MB := Lib.hid (NB.out.trans (hb.mono NB.out.size)); have MZ := Lib.hid (Nat.le_trans (Nat.le_of_eq NZ.out.symm) hb.size); have hz := Lib.hid (Row.zero4 w1 28); clear hb N0 N1 N2 NB NZ NS)
    | (with_reducible refine wpList_store_ints rfl 28 (.tmp 10) (.tmp 19) rfl rfl w1.heap.size rfl tt rfl 28 [0, 0, 0, 0] hz.out LVS.out LV.out ?_; intro w2 hr2; have MZ' := MZ.out; have P0 := Lib.hid (hr2.keep (by omega) (M0.out.old (.cells #[.int .i64 0, .int .i64 0, .int .i64 0, .int .i64 0] 28))); have P1 := Lib.hid (hr2.keep (by omega) (M1.out.old (.cells #[.int .i64 0, .int .i64 0, .int .i64 0, .int .i64 0] 28))); have P2 := Lib.hid (hr2.keep (by omega) (M2.out.old (.cells #[.int .i64 0, .int .i64 0, .int .i64 0, .int .i64 0] 28))); have PB := Lib.hid (hr2.below w.heap.size w (by omega) (MB.out.alloc (by omega) (.cells #[.int .i64 0, .int .i64 0, .int .i64 0, .int .i64 0] 28))); have PZ := Lib.hid (show w.heap.size + 3 ≤ w2.heap.size from by rw [hr2.size, World.size_alloc]; omega); have k2 := (P0.out.old (.cells #[] 5)).cell 2 _ rfl; have hm := Lib.hid (show (w2.alloc (.cells #[] 5)).ownsRow w2.heap.size 5 1 (.slice (some ⟨w2.heap.size, 0, none⟩) 0 0) 0 (u8s []) from World.ownsRow_made w2 #[] 0 (Nat.le_refl _) (by simp [maxLen]) (by simp)); have hs := Lib.hid ((HB.out.below PB.out).below ((Below.refl w.heap.size w2).alloc PB.out.size (.cells #[] 5))); clear hr2 hz M0 M1 M2 MB MZ MZ')
    | (at_builtin; refine wpList_append_bs rfl (.tmp 25) (.tmp 27) 22 rfl w2.heap.size 5 Try.underlying22 info_u8 (.slice (some ⟨w2.heap.size, 0, none⟩) 0 0) 0 [] rfl hm.out w.heap.size (some ⟨b, off, none⟩) n c xs rfl hs.out (by omega) (by simp) ?_; intro v1 w3 hown hgr))
  have PZ' := PZ.out
  have hgA := (World.grownBy_alloc w2 (.cells #[] 5) (some w2.heap.size)).trans hgr
  have Q0 := Lib.hid (P0.out.grown hgA (by simp; omega))
  have Q1 := Lib.hid (P1.out.grown hgA (by simp; omega))
  have Q2 := Lib.hid (P2.out.grown hgA (by simp; omega))
  have QB := Lib.hid (PB.out.grown hgA PB.out.size (by intro k hk; cases hk; omega))
  rcases hown.2 with ⟨_, h'⟩ | ⟨g, cap, cur, rfl, hg, hh, _⟩
  · omega
  have QP := Lib.hid (show Pix w3 g 5 xs from Pix.of_own (n := n) (cap := cap) (base := w2.heap.size) (by simpa using hown) HX.out)
  have hgz : w.heap.size + 3 ≤ g := by omega
  clear hown hgr hgA hh P0 P1 P2 PB PZ hm hs k2 hg
  rw [show (0 + n) = n from by omega]
  go_loopw [13] (fun i wr => ∃ k : Nat, k ≤ 4 ∧ i = .int .i64 k ∧ Hid (Row wr w.heap.size 24 (imL W H (some ⟨b, off, none⟩) n c) ∧ Row wr (w.heap.size + 1) 28 (i64s t) ∧ Row wr (w.heap.size + 2) 24 (imL 0 0 none 0 0) ∧ Pix wr g 5 (putK xs p t k) ∧ Below w.heap.size w wr)) (fun i _ => 4 - (intOf i).toNat)
  case atStart => exact ⟨0, by omega, rfl, Q0.out, Q1.out, Q2.out, QP.out, QB.out⟩
  case round =>
    obtain ⟨k, hk, rfl, hI⟩ := hrel
    clear Q0 Q1 Q2 QP QB
    by_cases hlt : k < 4
    · have c0 := hI.out.1.cell 0 _ rfl
      have ct := hI.out.2.1.int k (by rw [ht]; exact hlt)
      have cw := hI.out.2.2.2.1.cell (p + k) (by rw [LP.out]; omega)
      have cf := hI.out.2.2.2.1.frozen (p + k)
      have hxs := Lib.hid (show putK xs p t (k + 1) = (putK xs p t k).set (p + k) (cl (t.getD k 0)) from rfl)
      have hcl := Lib.hid (cl_lt (t.getD k 0))
      have hC := Lib.hid (clamp_still (t.getD k 0))
      generalize (putK xs p t k).getD (p + k) 0 = Y at *
      generalize cl (t.getD k 0) = q at *
      generalize t.getD k 0 = z at *
      have g1 : IntKind.i64.wrap (y * W) = y * W := IntWalk.i64_in _ (by omega)
      have g2 : IntKind.i64.wrap (y * W + x) = y * W + x := IntWalk.i64_in _ (by omega)
      have g3 : IntKind.i64.wrap (4 * (y * W + x)) = (p : Int) := by rw [← e0]; exact IntWalk.i64_in _ (by omega)
      have g5 : IntKind.u8.wrap (q : Int) = (q : Int) := by have := hcl.out; show ((q : Int) % 256) = q; omega
      have g7 : IntKind.i64.wrap (p : Int) = (p : Int) := IntWalk.i64_in _ (by omega)
      have g4 : IntKind.i64.wrap ((p : Int) + (k : Int)) = (p : Int) + (k : Int) := IntWalk.i64_in _ (by omega)
      have g8 : 0 ≤ (p : Int) + (k : Int) := by omega
      have g9 : (p : Int) + (k : Int) < (n : Int) := by omega
      go_wp2_with fail
      refine wp_region_still_tail 16 (by kernel_rfl) (by kernel_rfl) ?_
      simp only [List.take_succ_cons, List.take_zero, List.drop_succ_cons, List.drop_zero]
      change wpStill _ _ wr.drew (fun a' => wpList _ _ _ _ a' wr.drew) _ _
      have c0' : wr.drew.cell? ⟨w.heap.size, 0, none⟩ = some (.int .i64 W) := c0
      have ct' : wr.drew.cell? ⟨w.heap.size + 1, k, none⟩ = some (.int .i64 z) := ct
      have cw' : wr.drew.cell? ⟨g, p + k, none⟩ = some (.int .u8 (Y : Int)) := cw
      have cf' : wr.drew.frozen? ⟨g, p + k, none⟩ = false := cf
      have hdr := Lib.hid (show ∀ v, wr.drew.setCell ⟨g, p + k, none⟩ v = (wr.setCell ⟨g, p + k, none⟩ v).drew from fun _ => rfl)
      generalize wr.drew = w5 at *
      iterate 13 still_step
      still_call (hC.out _)
      iterate 2 still_step
      refine wpStill_nil ?_
      go_wp2
      all_goals
        go_roundw
        case rel =>
          rw [hdr.out]
          refine ⟨k + 1, by omega, by go_num, ?_, ?_, ?_, ?_, ?_⟩
          · exact (heap_setCell_other wr ⟨g, p + k, none⟩ w.heap.size _ (by show w.heap.size ≠ g; omega)).trans hI.out.1
          · exact (heap_setCell_other wr ⟨g, p + k, none⟩ (w.heap.size + 1) _ (by show w.heap.size + 1 ≠ g; omega)).trans hI.out.2.1
          · exact (heap_setCell_other wr ⟨g, p + k, none⟩ (w.heap.size + 2) _ (by show w.heap.size + 2 ≠ g; omega)).trans hI.out.2.2.1
          · rw [hxs.out]
            exact hI.out.2.2.2.1.set_ _ _ hcl.out
          · have hz := hI.out.2.2.2.2.setCell (show w.heap.size ≤ (⟨g, p + k, none⟩ : Addr).block from by show w.heap.size ≤ g; omega) (.int .u8 (q : Int))
            exact ⟨hz.os, hz.tape, hz.output, hz.size, hz.block⟩
        case measure => simp [intOf]; omega
    · obtain rfl : k = 4 := by omega
      have c0 := hI.out.1.cell 0 _ rfl
      have c1 := hI.out.1.cell 1 _ rfl
      have R2 := Lib.hid hI.out.2.2.1
      have L3 := Lib.hid (show (imL 0 0 none 0 0).length = 3 from rfl)
      go_wp2_with (with_reducible refine wpList_store_img rfl 24 (.tmp 8) (.tmp 54) rfl rfl (w.heap.size + 2) W H (some ⟨g, 0, none⟩) n cap rfl rfl 24 (imL 0 0 none 0 0) R2.out rfl size_image ?_; intro w4 hs4)
      refine bodyPost_ret (results_struct_tmp rfl _ _ (w.heap.size + 2) 24 (imL W H (some ⟨g, 0, none⟩) n cap) _ rfl hs4.row Try.underlying24 size_image) rfl ?_
      exact ⟨_, rfl, Img.of_pix (hs4.pix (by omega) hI.out.2.2.2.1) (LP.out 4) hn, hs4.below _ _ (by omega) hI.out.2.2.2.2⟩

set_option maxHeartbeats 1000000 in
theorem rput_no (A : Option Addr) (n c : Nat) (W H : Int) (xs : List Nat) (x y : Int) (t : List Int) (w : World) (hB : Bs w w.heap.size A n xs) (hn : n ≤ 67108864) (ht : t.length = 4) (hp : ¬ atP W H xs x y) :
    Calls Try.prog 12 #[img W H A n c, .int .i64 x, .int .i64 y, arr t] w fun e w' => e = .returned (.tuple #[img 0 0 none 0 0, .int .i64 1]) ∧ Below w.heap.size w w' := by
  have hT := Lib.hid (fun (u : World) (hu : Bs u u.heap.size A n xs) => rat_any (img W H A n c) W H xs x y u ⟨_, n, c, rfl, hn, hu⟩)
  rw [show noE (atP W H xs x y) = 1 from if_neg hp] at hT
  have LV := Lib.hid (show (atV W H xs x y).length = ([0, 0, 0, 0] : List Int).length from atV_length W H xs x y)
  have LVS := Lib.hid (show (Try.prog.info? 28).map (·.size) = some (atV W H xs x y).length from by rw [atV_length]; exact size_texel)
  obtain ⟨X, hX⟩ : ∃ X, X = ((w.alloc (.cells (imL W H A n c).toArray 24)).alloc (.cells (i64s t).toArray 28)).alloc (.cells (imL 0 0 none 0 0).toArray 24) := ⟨_, rfl⟩
  have N2 := Lib.hid (show Row X (w.heap.size + 2) 24 (imL 0 0 none 0 0) from by have := Row.new ((w.alloc (.cells (imL W H A n c).toArray 24)).alloc (.cells (i64s t).toArray 28)) 24 (imL 0 0 none 0 0); rw [World.size_alloc, World.size_alloc] at this; exact hX ▸ this)
  have NB := Lib.hid (show Below w.heap.size w X from hX ▸ ((((Below.refl w.heap.size w).alloc (Nat.le_refl _) _).alloc (by simp) _).alloc (by simp; omega) _))
  have NZ := Lib.hid (show X.heap.size = w.heap.size + 3 from by rw [hX]; simp)
  have NS := Lib.hid (show Bs (((w.alloc (.cells (imL W H A n c).toArray 24)).alloc (.cells (i64s t).toArray 28)).alloc (.cells (imL 0 0 none 0 0).toArray 24)) (((w.alloc (.cells (imL W H A n c).toArray 24)).alloc (.cells (i64s t).toArray 28)).alloc (.cells (imL 0 0 none 0 0).toArray 24)).heap.size A n xs from hX ▸ ((hB.below NB.out).more NB.out.size))
  clear hp hB
  generalize atV W H xs x y = tt at *
  go_enter Try.func12, Try.ntmps12
  go_wp2_with (first
    | (go_at_call 10; with_reducible refine (hT.out _ NS.out).mono ?_; rintro e w1 ⟨rfl, hb0⟩; have hb : Below X.heap.size X w1 := hX ▸ hb0; clear hb0; have M2 := Lib.hid (N2.out.below hb N2.out.lt); have MB := Lib.hid (NB.out.trans (hb.mono NB.out.size)); have MZ := Lib.hid (Nat.le_trans (Nat.le_of_eq NZ.out.symm) hb.size); have hz := Lib.hid (Row.zero4 w1 28); clear hb N2 NB NZ NS)
    | (with_reducible refine wpList_store_ints rfl 28 (.tmp 10) (.tmp 19) rfl rfl w1.heap.size rfl tt rfl 28 [0, 0, 0, 0] hz.out LVS.out LV.out ?_; intro w2 hr2; have MZ' := MZ.out; have P2 := Lib.hid (hr2.keep (by omega) (M2.out.old (.cells #[.int .i64 0, .int .i64 0, .int .i64 0, .int .i64 0] 28))); have PB := Lib.hid (hr2.below w.heap.size w (by omega) (MB.out.alloc (by omega) (.cells #[.int .i64 0, .int .i64 0, .int .i64 0, .int .i64 0] 28))); clear hr2 hz M2 MB MZ MZ')
    | (with_reducible refine wpList_store_img rfl 24 (.tmp 8) (.tmp 23) rfl rfl (w.heap.size + 2) 0 0 none 0 0 rfl rfl 24 (imL 0 0 none 0 0) P2.out rfl size_image ?_; intro w4 hs4))
  refine bodyPost_ret (results_struct_tmp rfl _ _ (w.heap.size + 2) 24 (imL 0 0 none 0 0) _ rfl hs4.row Try.underlying24 size_image) rfl ?_
  exact ⟨rfl, hs4.below _ _ (by omega) PB.out⟩

theorem rput_any (v : Value) (W H : Int) (xs : List Nat) (x y : Int) (t : List Int) (w : World) (h : Img w v W H xs) (ht : t.length = 4) :
    Calls Try.prog 12 #[v, .int .i64 x, .int .i64 y, arr t] w fun e w' => ∃ v', e = .returned (.tuple #[v', .int .i64 (noE (atP W H xs x y))]) ∧ Img w' v' (putW (atP W H xs x y) W) (putW (atP W H xs x y) H) (putX (atP W H xs x y) (put xs (plc W x y) t)) ∧ Below w.heap.size w w' := by
  obtain ⟨A, n, c, rfl, hn, hB⟩ := h
  by_cases hp : atP W H xs x y
  · simp only [show ∀ z, putW (atP W H xs x y) z = z from fun z => if_pos hp, show ∀ z, putX (atP W H xs x y) z = z from fun z => if_pos hp, show noE (atP W H xs x y) = 0 from if_pos hp]
    exact rput_ok A n c W H xs x y t w hB hn ht hp
  · simp only [show ∀ z, putW (atP W H xs x y) z = 0 from fun z => if_neg hp, show ∀ z, putX (atP W H xs x y) z = [] from fun z => if_neg hp, show noE (atP W H xs x y) = 1 from if_neg hp]
    exact (rput_no A n c W H xs x y t w hB hn ht hp).mono fun _ w' ⟨he, hb⟩ => ⟨_, he, Img.nil w', hb⟩
end Go.Proofs.Ytnlaelbceloliaa
