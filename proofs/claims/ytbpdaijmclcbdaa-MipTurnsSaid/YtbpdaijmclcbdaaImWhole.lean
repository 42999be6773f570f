/- The image of tiles: package image. -/
import Derived.Test.YtbpdaijmclcbdaaImCover
import Derived.StillTailTactics
import Derived.IntWalk
namespace Go.Proofs.Ytbpdaijmclcbdaa
open Go.RowKit
open Im

set_option maxHeartbeats 1000000 in
theorem each_tile (p1 p2 : Value) (a d : Nat) (ha : 0 < a) (hN : a * d ≤ 1048576) (ha2 : a ≤ 1048576) (I : Nat → World → Prop) (hdr : ∀ k u, I k u → I k u.drew) (w : World) (h0 : I 0 w)
    (hc : ∀ (k : Nat) (u : World), k < a * d → I k u → Calls Try.prog 47 #[.int .i64 (k : Int), .int .i64 ((k % a : Nat) : Int), .int .i64 ((k / a : Nat) : Int), p1, p2] u fun e u' => e = .returned (.tuple #[]) ∧ I (k + 1) u') :
    Calls Try.prog 46 #[.int .i64 (a : Int), .int .i64 (d : Int), .func (.func 47) #[] #[p1, p2]] w fun e w' => e = .returned (.tuple #[]) ∧ I (a * d) w' := by
  have HC := Lib.hid hc
  have H0 := Lib.hid h0
  have HD := Lib.hid hdr
  clear hc h0 hdr
  have hmul : (a : Int) * (d : Int) = ((a * d : Nat) : Int) := by simp
  have HN := Lib.hid hN
  obtain ⟨N, hNd⟩ : ∃ N, N = a * d := ⟨_, rfl⟩
  rw [← hNd] at hN HC hmul ⊢
  clear HN
  have HNd := Lib.hid hNd
  clear hNd
  have hwm : wrap64 ((a : Int) * (d : Int)) = (N : Int) := by rw [hmul]; exact wrap64_small _ (by omega) (by omega)
  go_enter Try.func46, Try.ntmps46
  go_wp2
  go_loopw [6, 10] (fun _ i wr => ∃ k : Nat, k ≤ N ∧ i = .int .i64 k ∧ Hid (I k wr)) (fun _ i _ => N - (intOf i).toNat)
  case atStart => exact ⟨0, by omega, rfl, H0⟩
  case round =>
    clear H0
    obtain ⟨k, hk, rfl, hI⟩ := hrel
    by_cases hlt : k < N
    · have HK := Lib.hid (HC.out k wr.drew hlt (HD.out k wr hI.out))
      have hz : a ≠ 0 := by omega
      have hrem : (k : Int) % (a : Int) = ((k % a : Nat) : Int) := by rw [← Int.natCast_emod]
      have hquo : wrap64 ((k : Int) / (a : Int)) = ((k / a : Nat) : Int) := by
        rw [← Int.natCast_ediv]
        have h9 := Nat.div_le_self k a
        generalize k / a = q at *
        exact wrap64_small _ (by omega) (by omega)
      generalize k % a = rm at *
      generalize k / a = qt at *
      go_wp2_with fail
      refine wp_region_still_tail 8 (by kernel_rfl) (by kernel_rfl) ?_
      simp only [List.take_succ_cons, List.take_zero, List.drop_succ_cons, List.drop_zero]
      change wpStill _ _ wr.drew (fun a' => wpList _ _ _ _ a' wr.drew) _ _
      generalize wr.drew = w5 at *
      iterate 8 still_step
      refine wpStill_nil ?_
      go_wp2_with fail
      try simp only [hrem, hquo]
      refine HK.out.mono ?_
      rintro e w' ⟨rfl, hI'⟩
      go_wp2_with fail
      go_roundw
      case rel => exact ⟨k + 1, by omega, by go_num, hI'⟩
      case measure => simp [intOf]; omega
    · obtain rfl : k = N := by omega
      go_wp2
      go_end0
      exact ⟨rfl, hI.out⟩

namespace Im
/-- Tile k of some. -/
def ti (ts : List Int) (k : Nat) : List Int := (ts.drop (k * 64)).take 64
end Im
theorem ti_length {ts : List Int} {m k : Nat} (h : ts.length = m * 64) (hk : k < m) : (ti ts k).length = 64 := by
  have : (k + 1) * 64 ≤ m * 64 := Nat.mul_le_mul_right 64 hk
  simp [ti]
  omega
theorem Rs.tile {w : World} {B b off m : Nat} {ts : List Int} (h : Rs w B (some ⟨b, off, none⟩) (m * 64) (i64s ts)) {k : Nat} (hk : k < m) : w.rangeAt b (off + k * 64) (i64s (ti ts k)) := by
  intro j v hv
  obtain ⟨b', off', e, _, hc⟩ := h.2 (by omega)
  injection e with e
  injection e with e1 e2
  subst e1 e2
  rw [Nat.add_assoc]
  refine hc _ v ?_
  rw [ti, i64s_take, i64s_drop, List.getElem?_take] at hv
  split at hv
  · rwa [List.getElem?_drop] at hv
  · cases hv
theorem Rs.grown {w w' : World} {B b off n g : Nat} {vs : List Value} (h : Rs w B (some ⟨b, off, none⟩) n vs) (hB : B ≤ w.heap.size) (hg : w.grownBy w' (some g)) (hne : b ≠ g) : Rs w' B (some ⟨b, off, none⟩) n vs := by
  refine ⟨h.1, fun hn => ?_⟩
  obtain ⟨b', off', e, hb, hc⟩ := h.2 hn
  injection e with e
  injection e with e1 e2
  subst e1 e2
  refine ⟨b, off, rfl, hb, fun i v hv => ?_⟩
  rw [World.cell?_of_block (w := w) (hg.block b (by omega) (by simpa using hne))]
  exact hc i v hv

set_option maxHeartbeats 1000000 in
theorem wh1_any (W H : Int) (g n c bm bl b off m cl' k : Nat) (zs : List Nat) (ts : List Int) (X Y : Int) (w : World) (hh : hasP W H n X Y)
    (hm : Row w bm 24 (imL W H (some ⟨g, 0, none⟩) n c)) (hl : Row w bl 26 [.slice (some ⟨b, off, none⟩) m cl']) (hp : Pix w g 5 zs) (hz : zs.length = n)
    (ht : Rs w w.heap.size (some ⟨b, off, none⟩) (m * 64) (i64s ts)) (hts : ts.length = m * 64) (hk : k < m) (hmx : m ≤ 1048576) (h1 : bm ≠ g) (h2 : bl ≠ g) (h3 : b ≠ g) :
    Calls Try.prog 47 #[.int .i64 (k : Int), .int .i64 X, .int .i64 Y, .pointer (some ⟨bm, 0, none⟩), .pointer (some ⟨bl, 0, none⟩)] w fun e w' => e = .returned (.tuple #[]) ∧ w.grownBy w' (some g) ∧ Pix w' g 5 (layK W H zs X Y (ti ts k) 16) := by
  have hL := ti_length hts hk
  have hCv := Lib.hid (fun (u : World) (hu : Pix u g 5 zs) => cover_any W H X Y g n c zs (ti ts k) u hh hL hu hz)
  have S0 := Lib.hid (show w.drew.cell? ⟨bm, 0, none⟩ = some (.int .i64 W) ∧ w.drew.cell? ⟨bm, 1, none⟩ = some (.int .i64 H) ∧ w.drew.cell? ⟨bm, 2, none⟩ = some (.slice (some ⟨g, 0, none⟩) n c) ∧ w.drew.cell? ⟨bl, 0, none⟩ = some (.slice (some ⟨b, off, none⟩) m cl') ∧ w.drew.rangeAt b (off + k * 64) (i64s (ti ts k)) from ⟨hm.cell 0 _ rfl, hm.cell 1 _ rfl, hm.cell 2 _ rfl, hl.cell 0 _ rfl, ht.tile hk⟩)
  have HP := Lib.hid (show Pix w.drew g 5 zs from hp)
  have hut := Try.underlying32
  have hit : (Try.prog.info? 32).map (·.size) = some (i64s (ti ts k)).length := by rw [i64s_length, hL]; exact size_tile
  have HG := Lib.hid (show ∀ u', w.drew.grownBy u' (some g) → u'.cell? ⟨bm, 0, none⟩ = some (.int .i64 W) ∧ u'.cell? ⟨bm, 1, none⟩ = some (.int .i64 H) ∧ u'.cell? ⟨bm, 2, none⟩ = some (.slice (some ⟨g, 0, none⟩) n c) ∧ u'.cell? ⟨bl, 0, none⟩ = some (.slice (some ⟨b, off, none⟩) m cl') ∧ u'.rangeAt b (off + k * 64) (i64s (ti ts k)) from fun u' hg => by
    have hm' : Row u' bm 24 (imL W H (some ⟨g, 0, none⟩) n c) := (show Row w.drew bm 24 (imL W H (some ⟨g, 0, none⟩) n c) from hm).grown hg (by simpa using h1)
    have hl' : Row u' bl 26 [.slice (some ⟨b, off, none⟩) m cl'] := (show Row w.drew bl 26 [.slice (some ⟨b, off, none⟩) m cl'] from hl).grown hg (by simpa using h2)
    have ht' := Rs.grown (w := w.drew) ht (Nat.le_refl _) hg h3
    exact ⟨hm'.cell 0 _ rfl, hm'.cell 1 _ rfl, hm'.cell 2 _ rfl, hl'.cell 0 _ rfl, ht'.tile hk⟩)
  have hki : (k : Int) < (m : Int) := by omega
  clear hh hm hl hp hz ht h1 h2 h3 hts hL
  generalize layK W H zs X Y (ti ts k) 16 = R at *
  go_enter Try.func47, Try.ntmps47
  go_wp2_with fail
  refine wp_region_held_drew (S := fun u => u.cell? ⟨bm, 0, none⟩ = some (.int .i64 W) ∧ u.cell? ⟨bm, 1, none⟩ = some (.int .i64 H) ∧ u.cell? ⟨bm, 2, none⟩ = some (.slice (some ⟨g, 0, none⟩) n c) ∧ u.cell? ⟨bl, 0, none⟩ = some (.slice (some ⟨b, off, none⟩) m cl') ∧ u.rangeAt b (off + k * 64) (i64s (ti ts k))) (by kernel_rfl) S0.out (fun kS => ?_)
  refine takeL (i := 0) (v := _) rfl (by kernel_rfl) (by kernel_rfl) (by kernel_rfl) (fun _ _ _ h => h) (Or.inl ⟨by rfl, (by intro u hSu; (try dsimp only at hSu); go_simp; try with_reducible rfl)⟩) kS ?_
  try simp only [Act.put, List.setIfInBounds_toArray, List.set_cons_zero, List.set_cons_succ]
  refine takeL (i := 1) (v := _) rfl (by kernel_rfl) (by kernel_rfl) (by kernel_rfl) (fun _ _ _ h => h) (Or.inl ⟨by rfl, (by intro u hSu; (try dsimp only at hSu); go_simp; try with_reducible rfl)⟩) kS ?_
  try simp only [Act.put, List.setIfInBounds_toArray, List.set_cons_zero, List.set_cons_succ]
  refine takeL (i := 2) (v := _) rfl (by kernel_rfl) (by kernel_rfl) (by kernel_rfl) (fun _ _ _ h => h) (Or.inl ⟨by rfl, (by intro u hSu; (try dsimp only at hSu); go_simp; try with_reducible rfl)⟩) kS ?_
  try simp only [Act.put, List.setIfInBounds_toArray, List.set_cons_zero, List.set_cons_succ]
  refine takeL (i := 3) (v := _) rfl (by kernel_rfl) (by kernel_rfl) (by kernel_rfl) (fun _ _ _ h => h) (Or.inl ⟨by rfl, (by intro u hSu; (try dsimp only at hSu); go_simp; try with_reducible rfl)⟩) kS ?_
  try simp only [Act.put, List.setIfInBounds_toArray, List.set_cons_zero, List.set_cons_succ]
  refine takeL (i := 4) (v := _) rfl (by kernel_rfl) (by kernel_rfl) (by kernel_rfl) (fun _ _ _ h => h) (Or.inl ⟨by rfl, (by intro u hSu; (try dsimp only at hSu); go_simp; try with_reducible rfl)⟩) kS ?_
  try simp only [Act.put, List.setIfInBounds_toArray, List.set_cons_zero, List.set_cons_succ]
  refine takeL (i := 5) (v := _) rfl (by kernel_rfl) (by kernel_rfl) (by kernel_rfl) (fun _ _ _ h => h) (Or.inl ⟨by rfl, (by intro u hSu; (try dsimp only at hSu); go_simp; try with_reducible rfl)⟩) kS ?_
  try simp only [Act.put, List.setIfInBounds_toArray, List.set_cons_zero, List.set_cons_succ]
  refine takeL (i := 6) rfl (by kernel_rfl) (by kernel_rfl) (by kernel_rfl) (fun _ _ _ h => h) (yieldsIf_load_mid (by rfl) _ _ rfl _ _ rfl _ _ (fun u hu => hu.2.2.2.2) hut rfl hit) kS ?_
  try simp only [Act.put, List.setIfInBounds_toArray, List.set_cons_zero, List.set_cons_succ]
  refine callL (i := 7) rfl (by kernel_rfl) (fun K hK => ?_)
  go_simp
  refine (hCv.out _ HP.out).mono ?_
  rintro e u1 ⟨rfl, hgr, hpx⟩
  go_wp2_with fail
  refine hK.out _ _ (HG.out _ hgr) (fun _ => ?_)
  clear hK K
  refine wpAnyH_done (by kernel_rfl) ?_ _
  go_wp2_with fail
  go_end0
  exact ⟨rfl, ⟨hgr.os, hgr.tape, hgr.output, hgr.size, hgr.block⟩, hpx⟩

/-- How many tiles there are. -/
theorem tl_nat {W H : Int} (h : szP W H) : ∃ a : Nat, tl W H = (a : Int) ∧ 0 < a ∧ a ≤ 1024 := by
  obtain ⟨h1, h2, h3, h4⟩ := h
  refine ⟨((W - 1) / 4 + 1).toNat, ?_, ?_, ?_⟩
  · rw [tl_ok h1 h3]; omega
  · omega
  · omega
theorem szP.symm {W H : Int} (h : szP W H) : szP H W := by unfold szP at *; omega
theorem has_tile {W H : Int} {n a d k : Nat} (hr : rightP W H n) (ha : tl W H = (a : Int)) (hd : tl H W = (d : Int)) (h0 : 0 < a) (hk : k < a * d) : hasP W H n ((k % a : Nat) : Int) ((k / a : Nat) : Int) := by
  have h1 := Nat.mod_lt k h0
  have h2 : k / a < d := Nat.div_lt_of_lt_mul hk
  refine ⟨hr, ?_⟩
  rw [ha, hd]
  generalize k % a = q at *
  generalize k / a = r at *
  exact ⟨by omega, by omega, by omega, by omega⟩

set_option maxHeartbeats 2000000 in
theorem whole_ok (W H : Int) (A : Option Addr) (n m c a d : Nat) (ts : List Int) (w : World) (hr : rightP W H n) (ha : tl W H = (a : Int)) (hd : tl H W = (d : Int)) (h0 : 0 < a) (ha2 : a ≤ 1024) (hd0 : 0 < d) (hd2 : d ≤ 1024) (hmd : m = a * d)
    (ht : Rs w w.heap.size A (m * 64) (i64s ts)) :
    Calls Try.prog 18 #[.int .i64 W, .int .i64 H, .slice A m c] w fun e w' => ∃ v', e = .returned (.tuple #[v', .int .i64 0]) ∧ Img w' v' W H (whK W H n a ts m) ∧ Below w.heap.size w w' := by
  have hts : ts.length = m * 64 := by have := ht.1; rwa [i64s_length] at this
  have hm0 : 0 < m := by rw [hmd]; exact Nat.mul_pos h0 hd0
  have hm2 : m ≤ 1048576 := by rw [hmd]; exact Nat.mul_le_mul ha2 hd2
  obtain ⟨b, off, rfl, hbw, _⟩ := ht.2 (by omega)
  have hsz := hr.1
  have hn2 : n ≤ 67108864 := by have h1 := mul_sz hr.1; have h2 := hr.2; have h3 : 4 * W * H = 4 * (W * H) := by rw [Int.mul_assoc]
                                omega
  have hNw := Lib.hid (fun u => new_ok W H n u hr)
  have hTl := Lib.hid (fun u => tiles_any W H u (by unfold szP at hsz; omega) (by unfold szP at hsz; omega))
  rw [ha, hd] at hTl
  have hmul : wrap64 ((a : Int) * (d : Int)) = (m : Int) := by
    rw [show (a : Int) * (d : Int) = ((a * d : Nat) : Int) from by simp, ← hmd]
    exact wrap64_small _ (by omega) (by omega)
  have hne : ((m : Int) != (m : Int)) = false := by simp
  obtain ⟨X, hX⟩ : ∃ X, X = (w.alloc (.cells [Value.slice (some ⟨b, off, none⟩) m c].toArray 26)).alloc (.cells (imL 0 0 none 0 0).toArray 24) := ⟨_, rfl⟩
  have N0 := Lib.hid (show Row X w.heap.size 26 [.slice (some ⟨b, off, none⟩) m c] from hX ▸ ((Row.new w 26 [.slice (some ⟨b, off, none⟩) m c]).old _))
  have N1 := Lib.hid (show Row X (w.heap.size + 1) 24 (imL 0 0 none 0 0) from by have := Row.new (w.alloc (.cells [Value.slice (some ⟨b, off, none⟩) m c].toArray 26)) 24 (imL 0 0 none 0 0); rw [World.size_alloc] at this; exact hX ▸ this)
  have NB := Lib.hid (show Below w.heap.size w X from hX ▸ (((Below.refl w.heap.size w).alloc (Nat.le_refl _) _).alloc (by simp) _))
  have NZ := Lib.hid (show X.heap.size = w.heap.size + 2 from by rw [hX]; simp)
  have HT := Lib.hid ht
  have HR := Lib.hid hr
  have HA := Lib.hid ha
  have HD := Lib.hid hd
  have HMD := Lib.hid hmd
  have HTS := Lib.hid hts
  clear ht hr ha hd hmd hts
  go_enter Try.func18, Try.ntmps18
  go_wp2_with (first
    | (go_at_call 33; refine (hNw.out _).mono ?_; rintro e w1 ⟨g, rfl, hg0, hpx, hb0⟩; have hb : Below X.heap.size X w1 := (by rw [hX]; exact hb0); have hg : X.heap.size ≤ g := (by rw [hX]; exact hg0); clear hb0 hg0; have M0 := Lib.hid ((N0.out.below hb N0.out.lt).old (.cells (imL W H (some ⟨g, 0, none⟩) n n).toArray 24)); have M1 := Lib.hid ((N1.out.below hb N1.out.lt).old (.cells (imL W H (some ⟨g, 0, none⟩) n n).toArray 24)); have M2 := Lib.hid (Row.new w1 24 (imL W H (some ⟨g, 0, none⟩) n n)); have MP := Lib.hid (hpx.old (.cells (imL W H (some ⟨g, 0, none⟩) n n).toArray 24)); have MB := Lib.hid ((NB.out.trans (hb.mono NB.out.size)).alloc (Nat.le_trans NB.out.size hb.size) (.cells (imL W H (some ⟨g, 0, none⟩) n n).toArray 24)); have hgz := Lib.hid (Nat.le_trans (Nat.le_of_eq NZ.out.symm) hg); have hgl := Lib.hid hpx.lt; have hzb := Lib.hid (Nat.le_trans (Nat.le_of_eq NZ.out.symm) hb.size); have l0 := M0.out.cell 0 _ rfl; clear hb hg hpx N0 N1 NB)
    | (go_at_call 15; refine (hTl.out _).mono ?_; rintro e w2 ⟨rfl, rfl⟩))
  have gz := hgz.out
  have gl := hgl.out
  have zb := hzb.out
  have hE := Lib.hid (each_tile (.pointer (some ⟨w1.heap.size, 0, none⟩)) (.pointer (some ⟨w.heap.size, 0, none⟩)) a d h0 (by rw [← HMD.out]; exact hm2) (by omega)
    (fun k u => Row u w1.heap.size 24 (imL W H (some ⟨g, 0, none⟩) n n) ∧ Row u w.heap.size 26 [.slice (some ⟨b, off, none⟩) m c] ∧ Row u (w.heap.size + 1) 24 (imL 0 0 none 0 0) ∧ Pix u g 5 (whK W H n a ts k) ∧ Rs u w.heap.size (some ⟨b, off, none⟩) (m * 64) (i64s ts) ∧ Below w.heap.size w u)
    (fun k u ⟨u0, u1, u2, u3, u4, u5⟩ => ⟨u0, u1, u2, u3, u4, ⟨u5.os, u5.tape, u5.output, u5.size, u5.block⟩⟩) _ ⟨M2.out, M0.out, M1.out, MP.out, HT.out.below MB.out, MB.out⟩
    (fun k u hk ⟨u0, u1, u2, u3, u4, u5⟩ => (wh1_any W H g n n w1.heap.size w.heap.size b off m c k (whK W H n a ts k) ts _ _ u (has_tile HR.out HA.out HD.out h0 hk) u0 u1 u3 (whK_length _ _ _ _ _ _) (u4.more u5.size) HTS.out (by rw [HMD.out]; exact hk) hm2 (by omega) (by omega) (by omega)).mono
      fun e u' ⟨he, hgr, hpx⟩ => ⟨he, u0.grown hgr (by simp; omega), u1.grown hgr (by simp; omega), u2.grown hgr (by simp; omega), hpx, Rs.grown u4 u5.size hgr (by omega), u5.grown hgr u5.size (by intro j hj; cases hj; omega)⟩))
  rw [← HMD.out] at hE
  have LW := Lib.hid (whK_length W H n a ts m)
  clear M0 M1 M2 MP MB hNw hTl l0
  go_wp2_with (first
    | (go_at_call 46; with_reducible refine hE.out.mono ?_; rintro e w3 ⟨rfl, hI⟩; have I0 := Lib.hid hI.1; have I2 := Lib.hid hI.2.2.1; have IP := Lib.hid hI.2.2.2.1; have IB := Lib.hid hI.2.2.2.2.2; clear hI)
    | (with_reducible refine wpList_load_img rfl 24 (.tmp 8) rfl w1.heap.size rfl 24 W H (some ⟨g, 0, none⟩) n n _ I0.out Try.underlying24 size_image ?_)
    | (with_reducible refine wpList_store_img rfl 24 (.tmp 6) (.tmp 39) rfl rfl (w.heap.size + 1) W H (some ⟨g, 0, none⟩) n n rfl rfl 24 (imL 0 0 none 0 0) I2.out rfl size_image ?_; intro w4 hs4))
  refine bodyPost_ret (results_struct_tmp rfl _ _ (w.heap.size + 1) 24 (imL W H (some ⟨g, 0, none⟩) n n) _ rfl hs4.row Try.underlying24 size_image) rfl ?_
  exact ⟨_, rfl, Img.of_pix (hs4.pix (by omega) IP.out) LW.out hn2, hs4.below _ _ (by omega) IB.out⟩
end Go.Proofs.Ytbpdaijmclcbdaa
