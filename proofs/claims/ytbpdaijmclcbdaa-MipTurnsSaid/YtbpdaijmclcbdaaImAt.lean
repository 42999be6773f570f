/- At and Put of package image. -/
import Derived.Test.YtbpdaijmclcbdaaImWrite
namespace Go.Proofs.Ytbpdaijmclcbdaa
open Go.RowKit
open Im

/-- v is an image of W by H with the bytes xs. -/
def Img (w : World) (v : Value) (W H : Int) (xs : List Nat) : Prop := ∃ A n c, v = img W H A n c ∧ n ≤ 67108864 ∧ Bs w w.heap.size A n xs
theorem Img.later {w w' : World} {v : Value} {W H : Int} {xs : List Nat} (h : Img w v W H xs) (hb : Below w.heap.size w w') : Img w' v W H xs := by
  obtain ⟨A, n, c, e, hn, hB⟩ := h
  exact ⟨A, n, c, e, hn, (hB.below hb).more hb.size⟩
theorem Img.nil (w : World) : Img w (img 0 0 none 0 0) 0 0 [] := ⟨none, 0, 0, rfl, by omega, Bs.nil w _ _⟩
theorem Img.of_pix {w : World} {g : Nat} {t : TypeId} {xs : List Nat} {W H : Int} {n c : Nat} (h : Pix w g t xs) (hn : xs.length = n) (hl : n ≤ 67108864) : Img w (img W H (some ⟨g, 0, none⟩) n c) W H xs := ⟨_, n, c, rfl, hl, h.bs hn⟩

theorem vals0 : (i64s [0, 0, 0, 0]).length = [Value.int .i64 0, .int .i64 0, .int .i64 0, .int .i64 0].length ∧ (Try.prog.info? 30).map (·.size) = some [Value.int .i64 0, .int .i64 0, .int .i64 0, .int .i64 0].length ∧ ∀ v ∈ [Value.int .i64 0, .int .i64 0, .int .i64 0, .int .i64 0], v.oneCell' = true := ⟨rfl, size_texel, i64s_one [0, 0, 0, 0]⟩
namespace Im
def atP (W H : Int) (xs : List Nat) (x y : Int) : Prop := rightP W H xs.length ∧ insP x y W H
instance (W H : Int) (xs : List Nat) (x y : Int) : Decidable (atP W H xs x y) := inferInstanceAs (Decidable (_ ∧ _))
def atV (W H : Int) (xs : List Nat) (x y : Int) : List Int := if atP W H xs x y then tex xs (plc W x y) else [0, 0, 0, 0]
def noE (p : Prop) [Decidable p] : Int := if p then 0 else 1
theorem atV_length (W H : Int) (xs : List Nat) (x y : Int) : (atV W H xs x y).length = 4 := by
  unfold atV
  split
  · exact tex_length _ _
  · rfl
end Im

set_option maxHeartbeats 400000 in
theorem at_any (v : Value) (W H : Int) (xs : List Nat) (x y : Int) (w : World) (h : Img w v W H xs) :
    Calls Try.prog 31 #[v, .int .i64 x, .int .i64 y] w fun e w' => e = .returned (.tuple #[arr (atV W H xs x y), .int .i64 (noE (atP W H xs x y))]) ∧ Below w.heap.size w w' := by
  obtain ⟨A, n, c, rfl, hn, hB⟩ := h
  have hl := hB.1
  have hT := Lib.hid (fun w => hasTexel_any W H A n c x y w (by omega))
  have N0 := Lib.hid ((Row.new w 24 (imL W H A n c)).old (.cells #[.int .i64 0, .int .i64 0, .int .i64 0, .int .i64 0] 30))
  have N1 := Lib.hid (show Row _ (w.heap.size + 1) 30 (i64s [0, 0, 0, 0]) from by have := Row.zero4 (w.alloc (.cells (imL W H A n c).toArray 24)) 30; rwa [World.size_alloc] at this)
  have NB := Lib.hid (((Below.refl w.heap.size w).alloc (Nat.le_refl _) (.cells (imL W H A n c).toArray 24)).alloc (by simp) (.cells #[.int .i64 0, .int .i64 0, .int .i64 0, .int .i64 0] 30))
  have HB := Lib.hid hB
  by_cases hp : atP W H xs x y
  · have hp' := hp
    unfold atP at hp'
    rw [hl] at hp'
    rw [decide_eq_true hp'] at hT
    have hR := Lib.hid (fun (u : World) (hu : Bs u u.heap.size A n xs) => read_any W H A n c x y xs u hp'.1 hp'.2 hu)
    have LT := Lib.hid (show (tex xs (plc W x y)).length = ([0, 0, 0, 0] : List Int).length from tex_length _ _)
    have LS := Lib.hid (show (Try.prog.info? 30).map (·.size) = some (tex xs (plc W x y)).length from by rw [tex_length]; exact size_texel)
    rw [show atV W H xs x y = tex xs (plc W x y) from if_pos hp, show noE (atP W H xs x y) = 0 from if_pos hp]
    clear hp hp' hB
    generalize tex xs (plc W x y) = t at *
    go_enter Try.func31, Try.ntmps31
    go_wp2_with (first
      | (go_at_call 54; with_reducible refine (hT.out _).mono ?_; rintro e w1 ⟨rfl, hb⟩; have M0 := Lib.hid (N0.out.below hb (by simp; omega)); have M1 := Lib.hid (N1.out.below hb (by simp)); have MB := Lib.hid (NB.out.trans (hb.mono (by simp; omega))); have MS := Lib.hid ((HB.out.below MB.out).more MB.out.size); clear hb N0 N1 NB)
      | (with_reducible refine wpList_load_img rfl 24 (.tmp 3) rfl w.heap.size rfl 24 W H A n c _ M0.out Try.underlying24 size_image ?_)
      | (go_at_call 39; with_reducible refine (hR.out _ MS.out).mono ?_; rintro e w2 ⟨rfl, hb⟩; have O1 := Lib.hid (M1.out.below hb M1.out.lt); have OB := Lib.hid (MB.out.trans (hb.mono MB.out.size)); clear hb M1 MB)
      | (with_reducible refine wpList_store_ints rfl 30 (.tmp 6) (.tmp 17) rfl rfl (w.heap.size + 1) rfl t rfl 30 [0, 0, 0, 0] O1.out LS.out LT.out ?_; intro w3 hr3))
    refine bodyPost_ret (results_array_tmp rfl _ _ (w.heap.size + 1) 30 (i64s t) 4 3 rfl hr3.row Try.underlying30 (by rw [i64s_length]; exact LS.out)) rfl ?_
    exact ⟨rfl, hr3.below _ _ (by omega) OB.out⟩
  · have hp' := hp
    unfold atP at hp'
    rw [hl] at hp'
    rw [decide_eq_false hp'] at hT
    rw [show atV W H xs x y = [0, 0, 0, 0] from if_neg hp, show noE (atP W H xs x y) = 1 from if_neg hp]
    clear hp hp' hB
    go_enter Try.func31, Try.ntmps31
    go_wp2_with (first
      | (go_at_call 54; with_reducible refine (hT.out _).mono ?_; rintro e w1 ⟨rfl, hb⟩; have M1 := Lib.hid (N1.out.below hb (by simp)); have MB := Lib.hid (NB.out.trans (hb.mono (by simp; omega))); clear hb N0 N1 NB; have LT := Lib.hid (show ([0, 0, 0, 0] : List Int).length = ([0, 0, 0, 0] : List Int).length from rfl))
      | (with_reducible refine wpList_store_vals rfl 30 (.tmp 6) (.tmp 13) rfl rfl (w.heap.size + 1) [.int .i64 0, .int .i64 0, .int .i64 0, .int .i64 0] rfl rfl 30 (i64s [0, 0, 0, 0]) M1.out vals0 ?_; intro w3 hr3))
    refine bodyPost_ret (results_array_tmp rfl _ _ (w.heap.size + 1) 30 (i64s [0, 0, 0, 0]) 4 3 rfl hr3.row Try.underlying30 size_texel) rfl ?_
    exact ⟨rfl, hr3.below _ _ (by omega) MB.out⟩

theorem right_pos {W H : Int} {n : Nat} (h : rightP W H n) : 0 < n := by
  have := mul_sz h.1
  have h2 := h.2
  have e : 4 * W * H = 4 * (W * H) := by rw [Int.mul_assoc]
  omega
namespace Im
/-- What Put answers. -/
def putW (p : Prop) [Decidable p] (W : Int) : Int := if p then W else 0
def putX (p : Prop) [Decidable p] (ys : List Nat) : List Nat := if p then ys else []
end Im
theorem put_length (xs : List Nat) (p : Nat) (t : List Int) : (put xs p t).length = xs.length := putK_length xs p t 4

set_option maxHeartbeats 1000000 in
theorem put_any (v : Value) (W H : Int) (xs : List Nat) (x y : Int) (t : List Int) (w : World) (h : Img w v W H xs) (ht : t.length = 4) :
    Calls Try.prog 34 #[v, .int .i64 x, .int .i64 y, arr t] w fun e w' => ∃ v', e = .returned (.tuple #[v', .int .i64 (noE (atP W H xs x y))]) ∧ Img w' v' (putW (atP W H xs x y) W) (putW (atP W H xs x y) H) (putX (atP W H xs x y) (put xs (plc W x y) t)) ∧ Below w.heap.size w w' := by
  obtain ⟨A, n, c, rfl, hn, hB⟩ := h
  have hl := hB.1
  have hT := Lib.hid (fun w => hasTexel_any W H A n c x y w (by omega))
  obtain ⟨X, hX⟩ : ∃ X, X = ((w.alloc (.cells (imL W H A n c).toArray 24)).alloc (.cells (i64s t).toArray 30)).alloc (.cells (imL 0 0 none 0 0).toArray 24) := ⟨_, rfl⟩
  have N0 := Lib.hid (show Row X w.heap.size 24 (imL W H A n c) from hX ▸ (((Row.new w 24 (imL W H A n c)).old (.cells (i64s t).toArray 30)).old (.cells (imL 0 0 none 0 0).toArray 24)))
  have N1 := Lib.hid (show Row X (w.heap.size + 1) 30 (i64s t) from by have := (Row.newInts (w.alloc (.cells (imL W H A n c).toArray 24)) 30 t).old (.cells (imL 0 0 none 0 0).toArray 24); rw [World.size_alloc] at this; exact hX ▸ this)
  have N2 := Lib.hid (show Row X (w.heap.size + 2) 24 (imL 0 0 none 0 0) from by have := Row.new ((w.alloc (.cells (imL W H A n c).toArray 24)).alloc (.cells (i64s t).toArray 30)) 24 (imL 0 0 none 0 0); rw [World.size_alloc, World.size_alloc] at this; exact hX ▸ this)
  have NB := Lib.hid (show Below w.heap.size w X from hX ▸ ((((Below.refl w.heap.size w).alloc (Nat.le_refl _) (.cells (imL W H A n c).toArray 24)).alloc (by simp) (.cells (i64s t).toArray 30)).alloc (by simp; omega) (.cells (imL 0 0 none 0 0).toArray 24)))
  have NS := Lib.hid (show X.heap.size = w.heap.size + 3 from by rw [hX]; simp)
  have HB := Lib.hid hB
  have L3 := Lib.hid (show (imL 0 0 none 0 0).length = 3 from rfl)
  by_cases hp : atP W H xs x y
  · have hp' := hp
    unfold atP at hp'
    rw [hl] at hp'
    rw [decide_eq_true hp'] at hT
    have h0 := right_pos hp'.1
    obtain ⟨b, off, rfl, _⟩ := hB.2.2 h0
    have hC := Lib.hid (fun (u : World) (hu : Bs u u.heap.size (some ⟨b, off, none⟩) n xs) => clone_any W H b off n c xs u hu h0 hn)
    have hWr := Lib.hid (fun (u : World) (g c : Nat) (hu : Pix u g 5 xs) => write_any W H g n c x y xs t u hp'.1 hp'.2 hu hl ht)
    have LS := Lib.hid (show (Try.prog.info? 30).map (·.size) = some t.length from by rw [ht]; exact size_texel)
    simp only [show ∀ z, putW (atP W H xs x y) z = z from fun z => if_pos hp, show ∀ z, putX (atP W H xs x y) z = z from fun z => if_pos hp, show noE (atP W H xs x y) = 0 from if_pos hp]
    have LP := Lib.hid (show (put xs (plc W x y) t).length = n from by rw [put_length, hl])
    clear hp hp' hB
    generalize put xs (plc W x y) t = ys at *
    go_enter Try.func34, Try.ntmps34
    go_wp2_with (first
      | (go_at_call 54; with_reducible refine (hT.out _).mono ?_; rintro e w1 ⟨rfl, hb0⟩; have hb : Below X.heap.size X w1 := hX ▸ hb0; clear hb0; have M0 := Lib.hid (N0.out.below hb N0.out.lt); have M1 := Lib.hid (N1.out.below hb N1.out.lt); have M2 := Lib.hid (N2.out.below hb N2.out.lt); have MB := Lib.hid (NB.out.trans (hb.mono NB.out.size)); have MZ := Lib.hid (Nat.le_trans (Nat.le_of_eq NS.out.symm) hb.size); have MS := Lib.hid ((HB.out.below MB.out).more MB.out.size); clear hb N0 N1 N2 NB NS)
      | (with_reducible refine wpList_load_img rfl 24 (.tmp 4) rfl w.heap.size rfl 24 W H (some ⟨b, off, none⟩) n c _ M0.out Try.underlying24 size_image ?_)
      | (go_at_call 42; with_reducible refine (hC.out _ MS.out).mono ?_; rintro e w2 ⟨g, cap, rfl, hg, hpx, hb⟩; have O1 := Lib.hid ((M1.out.below hb M1.out.lt).old (.cells (imL W H (some ⟨g, 0, none⟩) n cap).toArray 24)); have O2 := Lib.hid ((M2.out.below hb M2.out.lt).old (.cells (imL W H (some ⟨g, 0, none⟩) n cap).toArray 24)); have OB := Lib.hid ((MB.out.trans (hb.mono MB.out.size)).alloc (Nat.le_trans MB.out.size hb.size) (.cells (imL W H (some ⟨g, 0, none⟩) n cap).toArray 24)); have OP := Lib.hid (hpx.old (.cells (imL W H (some ⟨g, 0, none⟩) n cap).toArray 24)); have O3 := Lib.hid (Row.new w2 24 (imL W H (some ⟨g, 0, none⟩) n cap)); have hgz := Lib.hid (Nat.le_trans MZ.out hg); have hg2 := Lib.hid hpx.lt; have hw2 := Lib.hid (Nat.le_trans MZ.out hb.size); clear hb hg hpx M1 M2 MB MS)
      | (with_reducible refine wpList_load_ints rfl 30 (.tmp 7) rfl (w.heap.size + 1) rfl 30 t 4 3 O1.out Try.underlying30 LS.out ?_)
      | (go_at_call 55; with_reducible refine (hWr.out _ _ _ OP.out).mono ?_; rintro e w3 ⟨rfl, hgr, hpx⟩; have P2 := Lib.hid (O2.out.grown hgr (by have := hgz.out; simp; omega)); have P3 := Lib.hid (O3.out.grown hgr (by have := hg2.out; simp; omega)); have PB := Lib.hid (OB.out.grown hgr OB.out.size (by have := hgz.out; intro k hk; cases hk; omega)); have PP := Lib.hid hpx; clear hgr hpx O1 O2 O3 OB OP)
      | (with_reducible refine wpList_load_img rfl 24 (.tmp 10) rfl w2.heap.size rfl 24 W H (some ⟨g, 0, none⟩) n cap _ P3.out Try.underlying24 size_image ?_)
      | (with_reducible refine wpList_store_img rfl 24 (.tmp 8) (.tmp 24) rfl rfl (w.heap.size + 2) W H (some ⟨g, 0, none⟩) n cap rfl rfl 24 (imL 0 0 none 0 0) P2.out L3.out size_image ?_; intro w4 hs4))
    refine bodyPost_ret (results_struct_tmp rfl _ _ (w.heap.size + 2) 24 (imL W H (some ⟨g, 0, none⟩) n cap) _ rfl hs4.row Try.underlying24 size_image) rfl ?_
    refine ⟨_, rfl, Img.of_pix (hs4.pix (by have := hgz.out; omega) PP.out) LP.out hn, hs4.below _ _ (by omega) PB.out⟩
  · have hp' := hp
    unfold atP at hp'
    rw [hl] at hp'
    rw [decide_eq_false hp'] at hT
    simp only [show ∀ z, putW (atP W H xs x y) z = 0 from fun z => if_neg hp, show ∀ z, putX (atP W H xs x y) z = [] from fun z => if_neg hp, show noE (atP W H xs x y) = 1 from if_neg hp]
    clear hp hp' hB
    go_enter Try.func34, Try.ntmps34
    go_wp2_with (first
      | (go_at_call 54; with_reducible refine (hT.out _).mono ?_; rintro e w1 ⟨rfl, hb0⟩; have hb : Below X.heap.size X w1 := hX ▸ hb0; clear hb0; have M2 := Lib.hid (N2.out.below hb N2.out.lt); have MB := Lib.hid (NB.out.trans (hb.mono NB.out.size)); clear hb N0 N1 N2 NB NS)
      | (with_reducible refine wpList_store_img rfl 24 (.tmp 8) (.tmp 16) rfl rfl (w.heap.size + 2) 0 0 none 0 0 rfl rfl 24 (imL 0 0 none 0 0) M2.out L3.out size_image ?_; intro w4 hs4))
    refine bodyPost_ret (results_struct_tmp rfl _ _ (w.heap.size + 2) 24 (imL 0 0 none 0 0) _ rfl hs4.row Try.underlying24 size_image) rfl ?_
    exact ⟨_, rfl, Img.nil _, hs4.below _ _ (by omega) MB.out⟩
end Go.Proofs.Ytbpdaijmclcbdaa
