/- A tile laid over an image: package image. -/
import Derived.Test.YtbpdaijmclcbdaaImEq
namespace Go.Proofs.Ytbpdaijmclcbdaa
open Go.RowKit
open Im

theorem Row.tx {w : World} {g : Nat} {t : TypeId} {zs : List Int} (h : Row w g t (i64s zs)) (k : Nat) : w.rangeAt g (k * 4) (i64s (tx zs k)) := h.range (k * 4) 4

set_option maxHeartbeats 1000000 in
theorem cov1_in (W H X Y : Int) (g n c bm bt k : Nat) (zs : List Nat) (t : List Int) (w : World) (hr : rightP W H n) (hi : insP X Y W H)
    (hm : Row w bm 24 (imL W H (some ⟨g, 0, none⟩) n c)) (ht : Row w bt 32 (i64s t)) (hl : t.length = 64) (hk : k < 16) (hp : Pix w g 5 zs) (hz : zs.length = n) (h1 : bm ≠ g) (h2 : bt ≠ g) :
    Calls Try.prog 59 #[.int .i64 (k : Int), .int .i64 X, .int .i64 Y, .pointer (some ⟨bm, 0, none⟩), .pointer (some ⟨bt, 0, none⟩)] w fun e w' => e = .returned (.tuple #[]) ∧ w.grownBy w' (some g) ∧ Pix w' g 5 (put zs (plc W X Y) (tx t k)) := by
  have hI := Lib.hid (fun u => isInside_any X Y W H u)
  rw [decide_eq_true hi] at hI
  have hWr := Lib.hid (fun (u : World) (hu : Pix u g 5 zs) => write_any W H g n c X Y zs (tx t k) u hr hi hu hz (tx_length hl hk))
  have c0 := hm.cell 0 _ rfl
  have c1 := hm.cell 1 _ rfl
  have S0 := Lib.hid (show w.drew.cell? ⟨bm, 0, none⟩ = some (.int .i64 W) ∧ w.drew.cell? ⟨bm, 1, none⟩ = some (.int .i64 H) ∧ w.drew.cell? ⟨bm, 2, none⟩ = some (.slice (some ⟨g, 0, none⟩) n c) ∧ w.drew.rangeAt bt (k * 4) (i64s (tx t k)) from ⟨hm.cell 0 _ rfl, hm.cell 1 _ rfl, hm.cell 2 _ rfl, ht.tx k⟩)
  have HM := Lib.hid hm
  have HT := Lib.hid ht
  have HP := Lib.hid (show Pix w.drew g 5 zs from hp)
  have hut := Try.underlying30
  have hit : (Try.prog.info? 30).map (·.size) = some (i64s (tx t k)).length := by rw [i64s_length, tx_length hl hk]; exact size_texel
  have HG := Lib.hid (show ∀ u', w.drew.grownBy u' (some g) → u'.cell? ⟨bm, 0, none⟩ = some (.int .i64 W) ∧ u'.cell? ⟨bm, 1, none⟩ = some (.int .i64 H) ∧ u'.cell? ⟨bm, 2, none⟩ = some (.slice (some ⟨g, 0, none⟩) n c) ∧ u'.rangeAt bt (k * 4) (i64s (tx t k)) from fun u' hg => by
    have hm' : Row u' bm 24 (imL W H (some ⟨g, 0, none⟩) n c) := (show Row w.drew bm 24 (imL W H (some ⟨g, 0, none⟩) n c) from hm).grown hg (by simpa using h1)
    have ht' : Row u' bt 32 (i64s t) := (show Row w.drew bt 32 (i64s t) from ht).grown hg (by simpa using h2)
    exact ⟨hm'.cell 0 _ rfl, hm'.cell 1 _ rfl, hm'.cell 2 _ rfl, ht'.tx k⟩)
  have hki : (k : Int) < 16 := by omega
  clear hr hi hm ht hp hz h1 h2 HM HT
  generalize put zs (plc W X Y) (tx t k) = R at *
  go_enter Try.func59, Try.ntmps59
  go_wp2_with (go_at_call 57; with_reducible refine (hI.out _).mono ?_; rintro e w2 ⟨rfl, rfl⟩)
  refine wp_region_held_drew (S := fun u => u.cell? ⟨bm, 0, none⟩ = some (.int .i64 W) ∧ u.cell? ⟨bm, 1, none⟩ = some (.int .i64 H) ∧ u.cell? ⟨bm, 2, none⟩ = some (.slice (some ⟨g, 0, none⟩) n c) ∧ u.rangeAt bt (k * 4) (i64s (tx t k))) (by kernel_rfl) S0.out (fun kS => ?_)
  refine takeL (i := 0) (v := _) rfl (by kernel_rfl) (by kernel_rfl) (by kernel_rfl) (fun _ _ _ h => h) (Or.inl ⟨by rfl, (by intro u hSu; (try dsimp only at hSu); go_simp; try with_reducible rfl)⟩) kS ?_
  try simp only [Act.put, List.setIfInBounds_toArray, List.set_cons_zero, List.set_cons_succ]
  refine takeL (i := 1) (v := _) rfl (by kernel_rfl) (by kernel_rfl) (by kernel_rfl) (fun _ _ _ h => h) (Or.inl ⟨by rfl, (by intro u hSu; (try dsimp only at hSu); go_simp; try with_reducible rfl)⟩) kS ?_
  try simp only [Act.put, List.setIfInBounds_toArray, List.set_cons_zero, List.set_cons_succ]
  refine takeL (i := 2) (v := _) rfl (by kernel_rfl) (by kernel_rfl) (by kernel_rfl) (fun _ _ _ h => h) (Or.inl ⟨by rfl, (by intro u hSu; (try dsimp only at hSu); go_simp; try with_reducible rfl)⟩) kS ?_
  try simp only [Act.put, List.setIfInBounds_toArray, List.set_cons_zero, List.set_cons_succ]
  refine takeL (i := 3) (v := _) rfl (by kernel_rfl) (by kernel_rfl) (by kernel_rfl) (fun _ _ _ h => h) (Or.inl ⟨by rfl, (by intro u hSu; (try dsimp only at hSu); go_simp; try with_reducible rfl)⟩) kS ?_
  try simp only [Act.put, List.setIfInBounds_toArray, List.set_cons_zero, List.set_cons_succ]
  refine takeL (i := 4) (v := _) rfl (by kernel_rfl) (by kernel_rfl) (by kernel_rfl) (fun _ _ _ h => h) (Or.inl ⟨by rfl, (by intro u hSu; (try dsimp only at hSu); go_simp; try with_reducible rfl)⟩) kS ?_
  try simp only [Act.put, List.setIfInBounds_toArray, List.set_cons_zero, List.set_cons_succ]
  refine takeL (i := 5) rfl (by kernel_rfl) (by kernel_rfl) (by kernel_rfl) (fun _ _ _ h => h) (yieldsIf_load_mid (by rfl) _ _ rfl _ _ rfl _ _ (fun u hu => hu.2.2.2) hut rfl hit) kS ?_
  try simp only [Act.put, List.setIfInBounds_toArray, List.set_cons_zero, List.set_cons_succ]
  refine callL (i := 6) rfl (by kernel_rfl) (fun K hK => ?_)
  go_simp
  refine (hWr.out _ HP.out).mono ?_
  rintro e u1 ⟨rfl, hgr, hpx⟩
  go_wp2_with fail
  refine hK.out _ _ (HG.out _ hgr) (fun _ => ?_)
  clear hK K
  refine wpAnyH_done (by kernel_rfl) ?_ _
  go_wp2_with fail
  go_end0
  exact ⟨rfl, ⟨hgr.os, hgr.tape, hgr.output, hgr.size, hgr.block⟩, hpx⟩

theorem cov1_out (W H X Y : Int) (g n c bm bt k : Nat) (w : World) (hi : ¬ insP X Y W H) (hm : Row w bm 24 (imL W H (some ⟨g, 0, none⟩) n c)) :
    Calls Try.prog 59 #[.int .i64 (k : Int), .int .i64 X, .int .i64 Y, .pointer (some ⟨bm, 0, none⟩), .pointer (some ⟨bt, 0, none⟩)] w fun e w' => e = .returned (.tuple #[]) ∧ w = w' := by
  have hI := Lib.hid (fun u => isInside_any X Y W H u)
  rw [decide_eq_false hi] at hI
  have c0 := hm.cell 0 _ rfl
  have c1 := hm.cell 1 _ rfl
  clear hi hm
  go_enter Try.func59, Try.ntmps59
  go_wp2_with (go_at_call 57; with_reducible refine (hI.out _).mono ?_; rintro e w2 ⟨rfl, rfl⟩)
  go_end0
  exact ⟨rfl, rfl⟩
theorem plc_ins {W H x y : Int} {n : Nat} (h : hasP W H n x y) {k : Nat} (hk : k < 16) (h1 : x * 4 + (k : Int) % 4 < W) (h2 : y * 4 + (k : Int) / 4 < H) : insP (x * 4 + (k : Int) % 4) (y * 4 + (k : Int) / 4) W H := by
  obtain ⟨a, b, c, d, e, f⟩ := tl_in h
  unfold insP
  omega

/-- A step of cover. -/
theorem cov1_any (W H x y : Int) (g n c bm bt k : Nat) (xs : List Nat) (t : List Int) (w : World) (hh : hasP W H n x y)
    (hm : Row w bm 24 (imL W H (some ⟨g, 0, none⟩) n c)) (ht : Row w bt 32 (i64s t)) (hl : t.length = 64) (hk : k < 16) (hp : Pix w g 5 (layK W H xs x y t k)) (hz : xs.length = n) (h1 : bm ≠ g) (h2 : bt ≠ g) :
    Calls Try.prog 59 #[.int .i64 (k : Int), .int .i64 (x * 4 + (k : Int) % 4), .int .i64 (y * 4 + (k : Int) / 4), .pointer (some ⟨bm, 0, none⟩), .pointer (some ⟨bt, 0, none⟩)] w fun e w' => e = .returned (.tuple #[]) ∧ w.grownBy w' (some g) ∧ Pix w' g 5 (layK W H xs x y t (k + 1)) := by
  by_cases hc : x * 4 + (k : Int) % 4 < W ∧ y * 4 + (k : Int) / 4 < H
  · rw [layK, if_pos hc]
    exact cov1_in W H _ _ g n c bm bt k _ t w hh.1 (plc_ins hh hk hc.1 hc.2) hm ht hl hk hp (by rw [layK_length]; exact hz) h1 h2
  · rw [layK, if_neg hc]
    refine (cov1_out W H _ _ g n c bm bt k w (fun h => hc ⟨h.2.1, h.2.2.2⟩) hm).mono ?_
    rintro e w' ⟨rfl, rfl⟩
    exact ⟨rfl, World.grownBy.refl w _, hp⟩

set_option maxHeartbeats 1000000 in
theorem cover_any (W H x y : Int) (g n c : Nat) (xs : List Nat) (t : List Int) (w : World) (hh : hasP W H n x y) (hl : t.length = 64) (hp : Pix w g 5 xs) (hz : xs.length = n) :
    Calls Try.prog 43 #[img W H (some ⟨g, 0, none⟩) n c, .int .i64 x, .int .i64 y, arr t] w fun e w' => e = .returned (.tuple #[]) ∧ w.grownBy w' (some g) ∧ Pix w' g 5 (layK W H xs x y t 16) := by
  obtain ⟨t1, t2, t3, t4, _, _⟩ := tl_in hh
  have hg := hp.lt
  obtain ⟨X, hX⟩ : ∃ X, X = (w.alloc (.cells (imL W H (some ⟨g, 0, none⟩) n c).toArray 24)).alloc (.cells (i64s t).toArray 32) := ⟨_, rfl⟩
  have N0 : Row X w.heap.size 24 (imL W H (some ⟨g, 0, none⟩) n c) := hX ▸ ((Row.new w 24 (imL W H (some ⟨g, 0, none⟩) n c)).old _)
  have N1 : Row X (w.heap.size + 1) 32 (i64s t) := by have := Row.newInts (w.alloc (.cells (imL W H (some ⟨g, 0, none⟩) n c).toArray 24)) 32 t; rw [World.size_alloc] at this; exact hX ▸ this
  have NB : Below w.heap.size w X := hX ▸ (((Below.refl w.heap.size w).alloc (Nat.le_refl _) _).alloc (by simp) _)
  have hE := Lib.hid (each_cover (.pointer (some ⟨w.heap.size, 0, none⟩)) (.pointer (some ⟨w.heap.size + 1, 0, none⟩)) x y t1 (by omega) t3 (by omega)
    (fun k u => Row u w.heap.size 24 (imL W H (some ⟨g, 0, none⟩) n c) ∧ Row u (w.heap.size + 1) 32 (i64s t) ∧ Pix u g 5 (layK W H xs x y t k) ∧ w.grownBy u (some g)) X ⟨N0, N1, hp.later NB, Below.gives NB _⟩
    (fun k u hk ⟨u0, u1, u2, u3⟩ => (cov1_any W H x y g n c w.heap.size (w.heap.size + 1) k xs t u hh u0 u1 hl hk u2 hz (by omega) (by omega)).mono fun e u' ⟨he, hgr, hpx⟩ => ⟨he, u0.grown hgr (by simp; omega), u1.grown hgr (by simp; omega), hpx, u3.trans hgr⟩))
  rw [hX] at hE
  clear N0 N1 NB hp hh hX
  go_enter Try.func43, Try.ntmps43
  go_wp2_with (go_at_call 37; refine hE.out.mono ?_; rintro e w3 ⟨rfl, hI⟩)
  go_end0
  exact ⟨rfl, hI.2.2.2, hI.2.2.1⟩

namespace Im
def layW (p : Prop) [Decidable p] (W : Int) : Int := if p then W else 0
end Im
theorem layK_len (W H : Int) (xs : List Nat) (x y : Int) (t : List Int) (n : Nat) (h : xs.length = n) : (layK W H xs x y t 16).length = n := by rw [layK_length]; exact h
set_option maxHeartbeats 1000000 in
theorem lay_any (v : Value) (W H : Int) (xs : List Nat) (x y : Int) (t : List Int) (w : World) (h : Img w v W H xs) (hW : W ≤ 9223372036854775807) (hH : H ≤ 9223372036854775807) (ht : t.length = 64) :
    Calls Try.prog 12 #[v, .int .i64 x, .int .i64 y, arr t] w fun e w' => ∃ v', e = .returned (.tuple #[v', .int .i64 (noE (hasP W H xs.length x y))]) ∧ Img w' v' (putW (hasP W H xs.length x y) W) (putW (hasP W H xs.length x y) H) (putX (hasP W H xs.length x y) (layK W H xs x y t 16)) ∧ Below w.heap.size w w' := by
  obtain ⟨A, n, c, rfl, hn, hB⟩ := h
  have hl := hB.1
  rw [hl]
  have hT := Lib.hid (fun w => hasTile_any W H A n c x y w (by omega) hW hH)
  obtain ⟨X, hX⟩ : ∃ X, X = ((w.alloc (.cells (imL W H A n c).toArray 24)).alloc (.cells (i64s t).toArray 32)).alloc (.cells (imL 0 0 none 0 0).toArray 24) := ⟨_, rfl⟩
  have N0 := Lib.hid (show Row X w.heap.size 24 (imL W H A n c) from hX ▸ (((Row.new w 24 (imL W H A n c)).old (.cells (i64s t).toArray 32)).old (.cells (imL 0 0 none 0 0).toArray 24)))
  have N1 := Lib.hid (show Row X (w.heap.size + 1) 32 (i64s t) from by have := (Row.newInts (w.alloc (.cells (imL W H A n c).toArray 24)) 32 t).old (.cells (imL 0 0 none 0 0).toArray 24); rw [World.size_alloc] at this; exact hX ▸ this)
  have N2 := Lib.hid (show Row X (w.heap.size + 2) 24 (imL 0 0 none 0 0) from by have := Row.new ((w.alloc (.cells (imL W H A n c).toArray 24)).alloc (.cells (i64s t).toArray 32)) 24 (imL 0 0 none 0 0); rw [World.size_alloc, World.size_alloc] at this; exact hX ▸ this)
  have NB := Lib.hid (show Below w.heap.size w X from hX ▸ ((((Below.refl w.heap.size w).alloc (Nat.le_refl _) (.cells (imL W H A n c).toArray 24)).alloc (by simp) (.cells (i64s t).toArray 32)).alloc (by simp; omega) (.cells (imL 0 0 none 0 0).toArray 24)))
  have NS := Lib.hid (show X.heap.size = w.heap.size + 3 from by rw [hX]; simp)
  have HB := Lib.hid hB
  have L3 := Lib.hid (show (imL 0 0 none 0 0).length = 3 from rfl)
  by_cases hp : hasP W H n x y
  · rw [decide_eq_true hp] at hT
    have h0 := right_pos hp.1
    obtain ⟨b, off, rfl, _⟩ := hB.2.2 h0
    have hC := Lib.hid (fun (u : World) (hu : Bs u u.heap.size (some ⟨b, off, none⟩) n xs) => clone_any W H b off n c xs u hu h0 hn)
    have hWr := Lib.hid (fun (u : World) (g c : Nat) (hu : Pix u g 5 xs) => cover_any W H x y g n c xs t u hp ht hu hl)
    have LS := Lib.hid (show (Try.prog.info? 32).map (·.size) = some t.length from by rw [ht]; exact size_tile)
    simp only [show ∀ z, putW (hasP W H n x y) z = z from fun z => if_pos hp, show ∀ z, putX (hasP W H n x y) z = z from fun z => if_pos hp, show noE (hasP W H n x y) = 0 from if_pos hp]
    have LP := Lib.hid (layK_len W H xs x y t n hl)
    clear hp hB
    generalize layK W H xs x y t 16 = ys at *
    go_enter Try.func12, Try.ntmps12
    go_wp2_with (first
      | (go_at_call 36; with_reducible refine (hT.out _).mono ?_; rintro e w1 ⟨rfl, hb0⟩; have hb : Below X.heap.size X w1 := hX ▸ hb0; clear hb0; have M0 := Lib.hid (N0.out.below hb N0.out.lt); have M1 := Lib.hid (N1.out.below hb N1.out.lt); have M2 := Lib.hid (N2.out.below hb N2.out.lt); have MB := Lib.hid (NB.out.trans (hb.mono NB.out.size)); have MZ := Lib.hid (Nat.le_trans (Nat.le_of_eq NS.out.symm) hb.size); have MS := Lib.hid ((HB.out.below MB.out).more MB.out.size); clear hb N0 N1 N2 NB NS)
      | (with_reducible refine wpList_load_img rfl 24 (.tmp 4) rfl w.heap.size rfl 24 W H (some ⟨b, off, none⟩) n c _ M0.out Try.underlying24 size_image ?_)
      | (go_at_call 42; with_reducible refine (hC.out _ MS.out).mono ?_; rintro e w2 ⟨g, cap, rfl, hg, hpx, hb⟩; have O1 := Lib.hid ((M1.out.below hb M1.out.lt).old (.cells (imL W H (some ⟨g, 0, none⟩) n cap).toArray 24)); have O2 := Lib.hid ((M2.out.below hb M2.out.lt).old (.cells (imL W H (some ⟨g, 0, none⟩) n cap).toArray 24)); have OB := Lib.hid ((MB.out.trans (hb.mono MB.out.size)).alloc (Nat.le_trans MB.out.size hb.size) (.cells (imL W H (some ⟨g, 0, none⟩) n cap).toArray 24)); have OP := Lib.hid (hpx.old (.cells (imL W H (some ⟨g, 0, none⟩) n cap).toArray 24)); have O3 := Lib.hid (Row.new w2 24 (imL W H (some ⟨g, 0, none⟩) n cap)); have hgz := Lib.hid (Nat.le_trans MZ.out hg); have hg2 := Lib.hid hpx.lt; have hw2 := Lib.hid (Nat.le_trans MZ.out hb.size); clear hb hg hpx M1 M2 MB MS)
      | (with_reducible refine wpList_load_ints rfl 32 (.tmp 7) rfl (w.heap.size + 1) rfl 32 t 16 30 O1.out Try.underlying32 LS.out ?_)
      | (go_at_call 43; with_reducible refine (hWr.out _ _ _ OP.out).mono ?_; rintro e w3 ⟨rfl, hgr, hpx⟩; have P2 := Lib.hid (O2.out.grown hgr (by have := hgz.out; simp; omega)); have P3 := Lib.hid (O3.out.grown hgr (by have := hg2.out; simp; omega)); have PB := Lib.hid (OB.out.grown hgr OB.out.size (by have := hgz.out; intro k hk; cases hk; omega)); have PP := Lib.hid hpx; clear hgr hpx O1 O2 O3 OB OP)
      | (with_reducible refine wpList_load_img rfl 24 (.tmp 10) rfl w2.heap.size rfl 24 W H (some ⟨g, 0, none⟩) n cap _ P3.out Try.underlying24 size_image ?_)
      | (with_reducible refine wpList_store_img rfl 24 (.tmp 8) (.tmp 24) rfl rfl (w.heap.size + 2) W H (some ⟨g, 0, none⟩) n cap rfl rfl 24 (imL 0 0 none 0 0) P2.out L3.out size_image ?_; intro w4 hs4))
    refine bodyPost_ret (results_struct_tmp rfl _ _ (w.heap.size + 2) 24 (imL W H (some ⟨g, 0, none⟩) n cap) _ rfl hs4.row Try.underlying24 size_image) rfl ?_
    refine ⟨_, rfl, Img.of_pix (hs4.pix (by have := hgz.out; omega) PP.out) LP.out hn, hs4.below _ _ (by omega) PB.out⟩
  · rw [decide_eq_false hp] at hT
    simp only [show ∀ z, putW (hasP W H n x y) z = 0 from fun z => if_neg hp, show ∀ z, putX (hasP W H n x y) z = [] from fun z => if_neg hp, show noE (hasP W H n x y) = 1 from if_neg hp]
    clear hp hB
    go_enter Try.func12, Try.ntmps12
    go_wp2_with (first
      | (go_at_call 36; with_reducible refine (hT.out _).mono ?_; rintro e w1 ⟨rfl, hb0⟩; have hb : Below X.heap.size X w1 := hX ▸ hb0; clear hb0; have M2 := Lib.hid (N2.out.below hb N2.out.lt); have MB := Lib.hid (NB.out.trans (hb.mono NB.out.size)); clear hb N0 N1 N2 NB NS)
      | (with_reducible refine wpList_store_img rfl 24 (.tmp 8) (.tmp 16) rfl rfl (w.heap.size + 2) 0 0 none 0 0 rfl rfl 24 (imL 0 0 none 0 0) M2.out L3.out size_image ?_; intro w4 hs4))
    refine bodyPost_ret (results_struct_tmp rfl _ _ (w.heap.size + 2) 24 (imL 0 0 none 0 0) _ rfl hs4.row Try.underlying24 size_image) rfl ?_
    exact ⟨_, rfl, Img.nil _, hs4.below _ _ (by omega) MB.out⟩
end Go.Proofs.Ytbpdaijmclcbdaa
