/- ImageTells. -/
import Derived.Test.YtnlaelbceloliaaRows
import Derived.Test.YtnlaelbceloliaaImAwake
import Derived.Test.YtnlaelbceloliaaImEnv
import Derived.Test.YtnlaelbceloliaaImRput
import Derived.Test.YtnlaelbceloliaaOpenIm
namespace Go.Proofs.Ytnlaelbceloliaa.imageTells
open Go.ChangeShapes Go.WideShapes Go.ChangeAt Go.RowKit
open Im

/-- The arguments in their blocks. -/
theorem start (W H : Int) (A : Option Addr) (n c : Nat) (W' H' : Int) (A' : Option Addr) (n' c' : Nat) (x y : Int) (t : List Int) (w : World) (M : List (Value × Int × Int × List Nat)) (hM : ∀ i ∈ M, Img w i.1 i.2.1 i.2.2.1 i.2.2.2) :
    Env w [(w.heap.size + 2, 28, i64s t), (w.heap.size + 1, 26, [Value.int .i64 x, .int .i64 y]), (w.heap.size, 25, imL W H A n c ++ imL W' H' A' n' c')] M (((w.alloc (.cells (imL W H A n c ++ imL W' H' A' n' c').toArray 25)).alloc (.cells [Value.int .i64 x, .int .i64 y].toArray 26)).alloc (.cells (i64s t).toArray 28)) := by
  have e0 : Env w [] M w := ⟨by simp, hM, Below.refl _ _⟩
  have e1 := ((e0.new 25 (imL W H A n c ++ imL W' H' A' n' c')).new 26 [Value.int .i64 x, .int .i64 y]).new 28 (i64s t)
  simpa using e1

set_option maxHeartbeats 1000000 in
theorem dark (W H : Int) (A : Option Addr) (n c : Nat) (W' H' : Int) (A' : Option Addr) (n' c' : Nat) (x y : Int) (t : List Int) (w : World) (hn : n ≤ 9223372036854775807) (hn' : n' ≤ 9223372036854775807) (hd : lightB W H n = false ∨ lightB W' H' n' = false) :
    Calls Try.prog 3 #[.agg (imL W H A n c ++ imL W' H' A' n' c').toArray, .agg #[.int .i64 x, .int .i64 y], arr t] w fun e w' => e = .returned (.bool true) ∧ Below w.heap.size w w' := by
  have E0 := Lib.hid (start W H A n c W' H' A' n' c' x y t w [] (by simp))
  have hA := Lib.hid awake_any
  have h1 := Lib.hid (fun u => light_any W H A n c u hn)
  have h2 := Lib.hid (fun u => light_any W' H' A' n' c' u hn')
  generalize lightB W H n = l1 at *
  generalize lightB W' H' n' = l2 at *
  have hc : (l1 = false ∧ l2 = false) ∨ (l1 = false ∧ l2 = true) ∨ (l1 = true ∧ l2 = false) := by cases l1 <;> cases l2 <;> simp_all
  clear hd
  rcases hc with ⟨rfl, rfl⟩ | ⟨rfl, rfl⟩ | ⟨rfl, rfl⟩ <;>
  · go_enter Try.func3, Try.ntmps3
    go_wp2_with (first
      | (go_at_call 7; refine (hA.out _).mono ?_; rintro e w1 ⟨rfl, hb⟩; have E1 := Lib.hid (E0.out.later hb); clear hb; have a10 := (E1.out.row (g := w.heap.size) (t := 25) (vs := imL W H A n c ++ imL W' H' A' n' c') (by simp)).cell 0 _ rfl; have a11 := (E1.out.row (g := w.heap.size) (t := 25) (vs := imL W H A n c ++ imL W' H' A' n' c') (by simp)).cell 1 _ rfl; have a12 := (E1.out.row (g := w.heap.size) (t := 25) (vs := imL W H A n c ++ imL W' H' A' n' c') (by simp)).cell 2 _ rfl; have a13 := (E1.out.row (g := w.heap.size) (t := 25) (vs := imL W H A n c ++ imL W' H' A' n' c') (by simp)).cell 3 _ rfl; have a14 := (E1.out.row (g := w.heap.size) (t := 25) (vs := imL W H A n c ++ imL W' H' A' n' c') (by simp)).cell 4 _ rfl; have a15 := (E1.out.row (g := w.heap.size) (t := 25) (vs := imL W H A n c ++ imL W' H' A' n' c') (by simp)).cell 5 _ rfl)
      | (go_at_call 8; first
          | (refine (h2.out w2).mono ?_; rintro e w3 ⟨rfl, hb⟩; have E3 := Lib.hid (E2.out.later hb); clear hb)
          | (refine (h1.out w1).mono ?_; rintro e w2 ⟨rfl, hb⟩; have E2 := Lib.hid (E1.out.later hb); clear hb; have a20 := (E2.out.row (g := w.heap.size) (t := 25) (vs := imL W H A n c ++ imL W' H' A' n' c') (by simp)).cell 0 _ rfl; have a21 := (E2.out.row (g := w.heap.size) (t := 25) (vs := imL W H A n c ++ imL W' H' A' n' c') (by simp)).cell 1 _ rfl; have a22 := (E2.out.row (g := w.heap.size) (t := 25) (vs := imL W H A n c ++ imL W' H' A' n' c') (by simp)).cell 2 _ rfl; have a23 := (E2.out.row (g := w.heap.size) (t := 25) (vs := imL W H A n c ++ imL W' H' A' n' c') (by simp)).cell 3 _ rfl; have a24 := (E2.out.row (g := w.heap.size) (t := 25) (vs := imL W H A n c ++ imL W' H' A' n' c') (by simp)).cell 4 _ rfl; have a25 := (E2.out.row (g := w.heap.size) (t := 25) (vs := imL W H A n c ++ imL W' H' A' n' c') (by simp)).cell 5 _ rfl)))
    go_ret
    exact ⟨rfl, E3.out.bel⟩

set_option maxHeartbeats 4000000 in
set_option maxRecDepth 100000 in
theorem lit (W H : Int) (A : Option Addr) (n c : Nat) (W' H' : Int) (A' : Option Addr) (n' c' : Nat) (xs ys : List Nat) (x y : Int) (t : List Int) (w : World) (hB : Bs w w.heap.size A n xs) (hB' : Bs w w.heap.size A' n' ys) (ht : t.length = 4) (hl1 : lightB W H n = true) (hl2 : lightB W' H' n' = true) :
    Calls Try.prog 3 #[.agg (imL W H A n c ++ imL W' H' A' n' c').toArray, .agg #[.int .i64 x, .int .i64 y], arr t] w fun e w' => e = .returned (.bool true) ∧ Below w.heap.size w w' := by
  have hn := lightB_le hl1
  have hn' := lightB_le hl2
  have E0 := Lib.hid (start W H A n c W' H' A' n' c' x y t w [(img W H A n c, W, H, xs), (img W' H' A' n' c', W', H', ys)] (by
    intro i hi
    rcases List.mem_cons.1 hi with rfl | hi
    · exact ⟨A, n, c, rfl, by omega, hB⟩
    · rcases List.mem_cons.1 hi with rfl | hi
      · exact ⟨A', n', c', rfl, by omega, hB'⟩
      · cases hi))
  have hA := Lib.hid awake_any
  have h1 := Lib.hid (fun u => light_any W H A n c u (by omega))
  have h2 := Lib.hid (fun u => light_any W' H' A' n' c' u (by omega))
  rw [hl1] at h1
  rw [hl2] at h2
  have hAt := Lib.hid (fun (u : World) (h : Img u (img W H A n c) W H xs) => at_any _ W H xs x y u h)
  have hRAt := Lib.hid (fun (u : World) (h : Img u (img W H A n c) W H xs) => rat_any _ W H xs x y u h)
  have hPut := Lib.hid (fun (u : World) (h : Img u (img W H A n c) W H xs) => put_any _ W H xs x y t u h ht)
  have hRPut := Lib.hid (fun (u : World) (h : Img u (img W H A n c) W H xs) => rput_any _ W H xs x y t u h ht)
  have hSm := Lib.hid (fun (u : World) (h : Img u (img W H A n c) W H xs) (h' : Img u (img W' H' A' n' c') W' H' ys) => isame_any _ _ W H W' H' xs ys u h h')
  have hRSm := Lib.hid (fun (u : World) (h : Img u (img W H A n c) W H xs) (h' : Img u (img W' H' A' n' c') W' H' ys) => rsame_any _ _ W H W' H' xs ys u h h')
  have hRt := Lib.hid (fun u => right_any W H A n c u (by omega))
  have hRRt := Lib.hid (fun u => rright_any W H A n c u (by omega))
  have LV := Lib.hid (show (atV W H xs x y).length = ([0, 0, 0, 0] : List Int).length from atV_length W H xs x y)
  have LVS := Lib.hid (show (Try.prog.info? 28).map (·.size) = some (atV W H xs x y).length from by rw [atV_length]; exact size_texel)
  have LTS := Lib.hid (show (Try.prog.info? 28).map (·.size) = some t.length from by rw [ht]; exact size_texel)
  have heq := eq_texel (atV W H xs x y) (atV W H xs x y) (atV_length _ _ _ _ _) (atV_length _ _ _ _ _)
  rw [show (atV W H xs x y == atV W H xs x y) = true from by simp] at heq
  generalize atV W H xs x y = T at *
  generalize noE (atP W H xs x y) = E at *
  generalize putW (atP W H xs x y) W = PW at *
  generalize putW (atP W H xs x y) H = PH at *
  generalize putX (atP W H xs x y) (put xs (plc W x y) t) = PX at *
  generalize decide (sameP W H W' H' xs ys) = sm at *
  generalize decide (rightP W H n) = rt at *
  clear hB hB' ht hl1 hl2 hn hn'
  go_enter Try.func3, Try.ntmps3
  go_wp2_with (first
    | (go_at_call 7; refine (hA.out _).mono ?_; rintro e w1 ⟨rfl, hb⟩; have E1 := Lib.hid (E0.out.later hb); clear hb; have a10 := (E1.out.row (g := w.heap.size) (t := 25) (vs := imL W H A n c ++ imL W' H' A' n' c') (by simp)).cell 0 _ rfl; have a11 := (E1.out.row (g := w.heap.size) (t := 25) (vs := imL W H A n c ++ imL W' H' A' n' c') (by simp)).cell 1 _ rfl; have a12 := (E1.out.row (g := w.heap.size) (t := 25) (vs := imL W H A n c ++ imL W' H' A' n' c') (by simp)).cell 2 _ rfl; have a13 := (E1.out.row (g := w.heap.size) (t := 25) (vs := imL W H A n c ++ imL W' H' A' n' c') (by simp)).cell 3 _ rfl; have a14 := (E1.out.row (g := w.heap.size) (t := 25) (vs := imL W H A n c ++ imL W' H' A' n' c') (by simp)).cell 4 _ rfl; have a15 := (E1.out.row (g := w.heap.size) (t := 25) (vs := imL W H A n c ++ imL W' H' A' n' c') (by simp)).cell 5 _ rfl)
    | (go_at_call 8; first
        | (refine (h2.out w2).mono ?_; rintro e w3 ⟨rfl, hb⟩; have E3 := Lib.hid ((E2.out.later hb).new 24 (imL W H A n c)); have E3' := Lib.hid (E2.out.later hb); clear hb; have a30 := (E3'.out.row (g := w.heap.size) (t := 25) (vs := imL W H A n c ++ imL W' H' A' n' c') (by simp)).cell 0 _ rfl; have a31 := (E3'.out.row (g := w.heap.size) (t := 25) (vs := imL W H A n c ++ imL W' H' A' n' c') (by simp)).cell 1 _ rfl; have a32 := (E3'.out.row (g := w.heap.size) (t := 25) (vs := imL W H A n c ++ imL W' H' A' n' c') (by simp)).cell 2 _ rfl; have a33 := (E3'.out.row (g := w.heap.size) (t := 25) (vs := imL W H A n c ++ imL W' H' A' n' c') (by simp)).cell 3 _ rfl; have a34 := (E3'.out.row (g := w.heap.size) (t := 25) (vs := imL W H A n c ++ imL W' H' A' n' c') (by simp)).cell 4 _ rfl; have a35 := (E3'.out.row (g := w.heap.size) (t := 25) (vs := imL W H A n c ++ imL W' H' A' n' c') (by simp)).cell 5 _ rfl; have p40 := (E3.out.row (g := w.heap.size + 1) (t := 26) (vs := [Value.int .i64 x, .int .i64 y]) (by simp)).cell 0 _ rfl; have p41 := (E3.out.row (g := w.heap.size + 1) (t := 26) (vs := [Value.int .i64 x, .int .i64 y]) (by simp)).cell 1 _ rfl; have M3 := Lib.hid (E3.out.row (g := w3.heap.size) (t := 24) (vs := imL W H A n c) (by simp)))
        | (refine (h1.out w1).mono ?_; rintro e w2 ⟨rfl, hb⟩; have E2 := Lib.hid (E1.out.later hb); clear hb; have a20 := (E2.out.row (g := w.heap.size) (t := 25) (vs := imL W H A n c ++ imL W' H' A' n' c') (by simp)).cell 0 _ rfl; have a21 := (E2.out.row (g := w.heap.size) (t := 25) (vs := imL W H A n c ++ imL W' H' A' n' c') (by simp)).cell 1 _ rfl; have a22 := (E2.out.row (g := w.heap.size) (t := 25) (vs := imL W H A n c ++ imL W' H' A' n' c') (by simp)).cell 2 _ rfl; have a23 := (E2.out.row (g := w.heap.size) (t := 25) (vs := imL W H A n c ++ imL W' H' A' n' c') (by simp)).cell 3 _ rfl; have a24 := (E2.out.row (g := w.heap.size) (t := 25) (vs := imL W H A n c ++ imL W' H' A' n' c') (by simp)).cell 4 _ rfl; have a25 := (E2.out.row (g := w.heap.size) (t := 25) (vs := imL W H A n c ++ imL W' H' A' n' c') (by simp)).cell 5 _ rfl))
    | (go_at_call 9; refine (hAt.out _ (E3.out.image (by simp))).mono ?_; rintro e w4 ⟨rfl, hb⟩; have E4 := Lib.hid (E3.out.later hb); have Z4 := Lib.hid (Row.zero4 w4 28); clear hb M3)
    | (with_reducible refine wpList_store_ints rfl 28 (.tmp 11) (.tmp 44) rfl rfl w4.heap.size rfl T rfl 28 [0, 0, 0, 0] Z4.out LVS.out LV.out ?_; intro w5 hr5; have E5 := Lib.hid (E4.out.ints hr5); clear hr5; have p50 := (E5.out.row (g := w.heap.size + 1) (t := 26) (vs := [Value.int .i64 x, .int .i64 y]) (by simp)).cell 0 _ rfl; have p51 := (E5.out.row (g := w.heap.size + 1) (t := 26) (vs := [Value.int .i64 x, .int .i64 y]) (by simp)).cell 1 _ rfl; have M5 := Lib.hid (E5.out.row (g := w3.heap.size) (t := 24) (vs := imL W H A n c) (by simp)))
    | (with_reducible refine wpList_load_img rfl 24 (.tmp 10) rfl w3.heap.size rfl 24 W H A n c _ M5.out Try.underlying24 size_image ?_)
    | (go_at_call 10; refine (hRAt.out _ (E5.out.image (by simp))).mono ?_; rintro e w6 ⟨rfl, hb⟩; have E6 := Lib.hid (E5.out.later hb); have Z6 := Lib.hid (Row.zero4 w6 28); clear hb M5)
    | (with_reducible refine wpList_store_ints rfl 28 (.tmp 13) (.tmp 53) rfl rfl w6.heap.size rfl T rfl 28 [0, 0, 0, 0] Z6.out LVS.out LV.out ?_; intro w7 hr7; have E7 := Lib.hid (E6.out.ints hr7); clear hr7; have p70 := (E7.out.row (g := w.heap.size + 1) (t := 26) (vs := [Value.int .i64 x, .int .i64 y]) (by simp)).cell 0 _ rfl; have p71 := (E7.out.row (g := w.heap.size + 1) (t := 26) (vs := [Value.int .i64 x, .int .i64 y]) (by simp)).cell 1 _ rfl; have M7 := Lib.hid (E7.out.row (g := w3.heap.size) (t := 24) (vs := imL W H A n c) (by simp)); have T7 := Lib.hid (E7.out.row (g := w.heap.size + 2) (t := 28) (vs := i64s t) (by simp)))
    | (with_reducible refine wpList_load_img rfl 24 (.tmp 10) rfl w3.heap.size rfl 24 W H A n c _ M7.out Try.underlying24 size_image ?_)
    | (with_reducible refine wpList_load_ints rfl 28 (.tmp 5) rfl (w.heap.size + 2) rfl 28 t 4 3 T7.out Try.underlying28 LTS.out ?_)
    | (go_at_call 11; refine (hPut.out _ (E7.out.image (by simp))).mono ?_; rintro e w8 ⟨v8, rfl, hI8, hb⟩; obtain ⟨A8, n8, c8, rfl, hn8, hB8⟩ := hI8; have E8 := Lib.hid (((E7.out.later hb).img (show Img w8 (img PW PH A8 n8 c8) PW PH PX from ⟨A8, n8, c8, rfl, hn8, hB8⟩)).new 24 (imL PW PH A8 n8 c8)); clear hb hB8 hn8 M7 T7; have p80 := (E8.out.row (g := w.heap.size + 1) (t := 26) (vs := [Value.int .i64 x, .int .i64 y]) (by simp)).cell 0 _ rfl; have p81 := (E8.out.row (g := w.heap.size + 1) (t := 26) (vs := [Value.int .i64 x, .int .i64 y]) (by simp)).cell 1 _ rfl; have M8 := Lib.hid (E8.out.row (g := w3.heap.size) (t := 24) (vs := imL W H A n c) (by simp)); have T8 := Lib.hid (E8.out.row (g := w.heap.size + 2) (t := 28) (vs := i64s t) (by simp)))
    | (with_reducible refine wpList_load_img rfl 24 (.tmp 10) rfl w3.heap.size rfl 24 W H A n c _ M8.out Try.underlying24 size_image ?_)
    | (with_reducible refine wpList_load_ints rfl 28 (.tmp 5) rfl (w.heap.size + 2) rfl 28 t 4 3 T8.out Try.underlying28 LTS.out ?_)
    | (go_at_call 12; refine (hRPut.out _ (E8.out.image (by simp))).mono ?_; rintro e w9 ⟨v9, rfl, hI9, hb⟩; obtain ⟨A9, n9, c9, rfl, hn9, hB9⟩ := hI9; have E9 := Lib.hid (((E8.out.later hb).img (show Img w9 (img PW PH A9 n9 c9) PW PH PX from ⟨A9, n9, c9, rfl, hn9, hB9⟩)).new 24 (imL PW PH A9 n9 c9)); clear hb hB9 hn9 M8 T8; have M9a := Lib.hid (E9.out.row (g := w8.heap.size) (t := 24) (vs := imL PW PH A8 n8 c8) (by simp)); have M9b := Lib.hid (E9.out.row (g := w9.heap.size) (t := 24) (vs := imL PW PH A9 n9 c9) (by simp)))
    | (with_reducible refine wpList_load_img rfl 24 (.tmp 15) rfl w8.heap.size rfl 24 PW PH A8 n8 c8 _ M9a.out Try.underlying24 size_image ?_)
    | (with_reducible refine wpList_load_img rfl 24 (.tmp 17) rfl w9.heap.size rfl 24 PW PH A9 n9 c9 _ M9b.out Try.underlying24 size_image ?_)
    | (go_at_call 13; refine (lsame_any _ _ PW PH PW PH PX PX _ (E9.out.image (by simp)) (E9.out.image (by simp))).mono ?_; rintro e w10 ⟨rfl, hb⟩; rw [show decide (sameP PW PH PW PH PX PX) = true from by simp [sameP]]; have E10 := Lib.hid (E9.out.later hb); clear hb M9a M9b; have at0 := (E10.out.row (g := w.heap.size) (t := 25) (vs := imL W H A n c ++ imL W' H' A' n' c') (by simp)).cell 0 _ rfl; have at1 := (E10.out.row (g := w.heap.size) (t := 25) (vs := imL W H A n c ++ imL W' H' A' n' c') (by simp)).cell 1 _ rfl; have at2 := (E10.out.row (g := w.heap.size) (t := 25) (vs := imL W H A n c ++ imL W' H' A' n' c') (by simp)).cell 2 _ rfl; have at3 := (E10.out.row (g := w.heap.size) (t := 25) (vs := imL W H A n c ++ imL W' H' A' n' c') (by simp)).cell 3 _ rfl; have at4 := (E10.out.row (g := w.heap.size) (t := 25) (vs := imL W H A n c ++ imL W' H' A' n' c') (by simp)).cell 4 _ rfl; have at5 := (E10.out.row (g := w.heap.size) (t := 25) (vs := imL W H A n c ++ imL W' H' A' n' c') (by simp)).cell 5 _ rfl; have M10 := Lib.hid (E10.out.row (g := w3.heap.size) (t := 24) (vs := imL W H A n c) (by simp)))
    | (with_reducible refine wpList_load_img rfl 24 (.tmp 10) rfl w3.heap.size rfl 24 W H A n c _ M10.out Try.underlying24 size_image ?_)
    | (go_at_call 14; refine (hRSm.out _ (E10.out.image (by simp)) (E10.out.image (by simp))).mono ?_; rintro e w11 ⟨rfl, hb⟩; have E11 := Lib.hid (E10.out.later hb); clear hb M10))
  have F11 := Lib.hid (E11.out.part [(w3.heap.size, 24, imL W H A n c), (w.heap.size, 25, imL W H A n c ++ imL W' H' A' n' c'), (w4.heap.size, 28, i64s T), (w6.heap.size, 28, i64s T)] [(img W H A n c, W, H, xs), (img W' H' A' n' c', W', H', ys)] (by simp) (by simp))
  have LT4 := Lib.hid (show T.length = 4 from LV.out)
  have ready := Lib.hid (show ∀ u, Env w [(w3.heap.size, 24, imL W H A n c), (w.heap.size, 25, imL W H A n c ++ imL W' H' A' n' c'), (w4.heap.size, 28, i64s T), (w6.heap.size, 28, i64s T)] [(img W H A n c, W, H, xs), (img W' H' A' n' c', W', H', ys)] u → (u.cell? ⟨w3.heap.size, 0, none⟩ = some (.int .i64 W) ∧ u.cell? ⟨w3.heap.size, 1, none⟩ = some (.int .i64 H) ∧ u.cell? ⟨w3.heap.size, 2, none⟩ = some (.slice A n c) ∧ u.cell? ⟨w.heap.size, 3, none⟩ = some (.int .i64 W') ∧ u.cell? ⟨w.heap.size, 4, none⟩ = some (.int .i64 H') ∧ u.cell? ⟨w.heap.size, 5, none⟩ = some (.slice A' n' c') ∧ u.rangeAt w4.heap.size 0 (i64s T) ∧ u.rangeAt w6.heap.size 0 (i64s T) ∧ Hid (Env w [(w3.heap.size, 24, imL W H A n c), (w.heap.size, 25, imL W H A n c ++ imL W' H' A' n' c'), (w4.heap.size, 28, i64s T), (w6.heap.size, 28, i64s T)] [(img W H A n c, W, H, xs), (img W' H' A' n' c', W', H', ys)] u)) from fun u h => by
    have r0 := h.row (g := w3.heap.size) (t := 24) (vs := imL W H A n c) (by simp)
    have r1 := h.row (g := w.heap.size) (t := 25) (vs := imL W H A n c ++ imL W' H' A' n' c') (by simp)
    have r2 := h.row (g := w4.heap.size) (t := 28) (vs := i64s T) (by simp)
    have r3 := h.row (g := w6.heap.size) (t := 28) (vs := i64s T) (by simp)
    have g2 := r2.range 0 4
    have g3 := r3.range 0 4
    rw [List.drop_zero, List.take_of_length_le (by rw [LT4.out]; omega)] at g2 g3
    exact ⟨r0.cell 0 _ rfl, r0.cell 1 _ rfl, r0.cell 2 _ rfl, r1.cell 3 _ rfl, r1.cell 4 _ rfl, r1.cell 5 _ rfl, g2, g3, h⟩)
  have kR := Lib.hid (show ∀ u, (u.cell? ⟨w3.heap.size, 0, none⟩ = some (.int .i64 W) ∧ u.cell? ⟨w3.heap.size, 1, none⟩ = some (.int .i64 H) ∧ u.cell? ⟨w3.heap.size, 2, none⟩ = some (.slice A n c) ∧ u.cell? ⟨w.heap.size, 3, none⟩ = some (.int .i64 W') ∧ u.cell? ⟨w.heap.size, 4, none⟩ = some (.int .i64 H') ∧ u.cell? ⟨w.heap.size, 5, none⟩ = some (.slice A' n' c') ∧ u.rangeAt w4.heap.size 0 (i64s T) ∧ u.rangeAt w6.heap.size 0 (i64s T) ∧ Hid (Env w [(w3.heap.size, 24, imL W H A n c), (w.heap.size, 25, imL W H A n c ++ imL W' H' A' n' c'), (w4.heap.size, 28, i64s T), (w6.heap.size, 28, i64s T)] [(img W H A n c, W, H, xs), (img W' H' A' n' c', W', H', ys)] u)) → Calls Try.prog 15 #[img W H A n c] u fun e u' => e = .returned (.bool rt) ∧ u'.cell? ⟨w3.heap.size, 0, none⟩ = some (.int .i64 W) ∧ u'.cell? ⟨w3.heap.size, 1, none⟩ = some (.int .i64 H) ∧ u'.cell? ⟨w3.heap.size, 2, none⟩ = some (.slice A n c) ∧ u'.cell? ⟨w.heap.size, 3, none⟩ = some (.int .i64 W') ∧ u'.cell? ⟨w.heap.size, 4, none⟩ = some (.int .i64 H') ∧ u'.cell? ⟨w.heap.size, 5, none⟩ = some (.slice A' n' c') ∧ u'.rangeAt w4.heap.size 0 (i64s T) ∧ u'.rangeAt w6.heap.size 0 (i64s T) ∧ Hid (Env w [(w3.heap.size, 24, imL W H A n c), (w.heap.size, 25, imL W H A n c ++ imL W' H' A' n' c'), (w4.heap.size, 28, i64s T), (w6.heap.size, 28, i64s T)] [(img W H A n c, W, H, xs), (img W' H' A' n' c', W', H', ys)] u') from fun u h => (hRt.out u).mono fun e u' ⟨he, hb⟩ => ⟨he, ready.out u' (h.2.2.2.2.2.2.2.2.out.later hb)⟩)
  have kRR := Lib.hid (show ∀ u, (u.cell? ⟨w3.heap.size, 0, none⟩ = some (.int .i64 W) ∧ u.cell? ⟨w3.heap.size, 1, none⟩ = some (.int .i64 H) ∧ u.cell? ⟨w3.heap.size, 2, none⟩ = some (.slice A n c) ∧ u.cell? ⟨w.heap.size, 3, none⟩ = some (.int .i64 W') ∧ u.cell? ⟨w.heap.size, 4, none⟩ = some (.int .i64 H') ∧ u.cell? ⟨w.heap.size, 5, none⟩ = some (.slice A' n' c') ∧ u.rangeAt w4.heap.size 0 (i64s T) ∧ u.rangeAt w6.heap.size 0 (i64s T) ∧ Hid (Env w [(w3.heap.size, 24, imL W H A n c), (w.heap.size, 25, imL W H A n c ++ imL W' H' A' n' c'), (w4.heap.size, 28, i64s T), (w6.heap.size, 28, i64s T)] [(img W H A n c, W, H, xs), (img W' H' A' n' c', W', H', ys)] u)) → Calls Try.prog 16 #[img W H A n c] u fun e u' => e = .returned (.bool rt) ∧ u'.cell? ⟨w3.heap.size, 0, none⟩ = some (.int .i64 W) ∧ u'.cell? ⟨w3.heap.size, 1, none⟩ = some (.int .i64 H) ∧ u'.cell? ⟨w3.heap.size, 2, none⟩ = some (.slice A n c) ∧ u'.cell? ⟨w.heap.size, 3, none⟩ = some (.int .i64 W') ∧ u'.cell? ⟨w.heap.size, 4, none⟩ = some (.int .i64 H') ∧ u'.cell? ⟨w.heap.size, 5, none⟩ = some (.slice A' n' c') ∧ u'.rangeAt w4.heap.size 0 (i64s T) ∧ u'.rangeAt w6.heap.size 0 (i64s T) ∧ Hid (Env w [(w3.heap.size, 24, imL W H A n c), (w.heap.size, 25, imL W H A n c ++ imL W' H' A' n' c'), (w4.heap.size, 28, i64s T), (w6.heap.size, 28, i64s T)] [(img W H A n c, W, H, xs), (img W' H' A' n' c', W', H', ys)] u') from fun u h => (hRRt.out u).mono fun e u' ⟨he, hb⟩ => ⟨he, ready.out u' (h.2.2.2.2.2.2.2.2.out.later hb)⟩)
  have kSm := Lib.hid (show ∀ u, (u.cell? ⟨w3.heap.size, 0, none⟩ = some (.int .i64 W) ∧ u.cell? ⟨w3.heap.size, 1, none⟩ = some (.int .i64 H) ∧ u.cell? ⟨w3.heap.size, 2, none⟩ = some (.slice A n c) ∧ u.cell? ⟨w.heap.size, 3, none⟩ = some (.int .i64 W') ∧ u.cell? ⟨w.heap.size, 4, none⟩ = some (.int .i64 H') ∧ u.cell? ⟨w.heap.size, 5, none⟩ = some (.slice A' n' c') ∧ u.rangeAt w4.heap.size 0 (i64s T) ∧ u.rangeAt w6.heap.size 0 (i64s T) ∧ Hid (Env w [(w3.heap.size, 24, imL W H A n c), (w.heap.size, 25, imL W H A n c ++ imL W' H' A' n' c'), (w4.heap.size, 28, i64s T), (w6.heap.size, 28, i64s T)] [(img W H A n c, W, H, xs), (img W' H' A' n' c', W', H', ys)] u)) → Calls Try.prog 17 #[img W H A n c, img W' H' A' n' c'] u fun e u' => e = .returned (.bool sm) ∧ u'.cell? ⟨w3.heap.size, 0, none⟩ = some (.int .i64 W) ∧ u'.cell? ⟨w3.heap.size, 1, none⟩ = some (.int .i64 H) ∧ u'.cell? ⟨w3.heap.size, 2, none⟩ = some (.slice A n c) ∧ u'.cell? ⟨w.heap.size, 3, none⟩ = some (.int .i64 W') ∧ u'.cell? ⟨w.heap.size, 4, none⟩ = some (.int .i64 H') ∧ u'.cell? ⟨w.heap.size, 5, none⟩ = some (.slice A' n' c') ∧ u'.rangeAt w4.heap.size 0 (i64s T) ∧ u'.rangeAt w6.heap.size 0 (i64s T) ∧ Hid (Env w [(w3.heap.size, 24, imL W H A n c), (w.heap.size, 25, imL W H A n c ++ imL W' H' A' n' c'), (w4.heap.size, 28, i64s T), (w6.heap.size, 28, i64s T)] [(img W H A n c, W, H, xs), (img W' H' A' n' c', W', H', ys)] u') from fun u h => (hSm.out u (h.2.2.2.2.2.2.2.2.out.image (by simp)) (h.2.2.2.2.2.2.2.2.out.image (by simp))).mono fun e u' ⟨he, hb⟩ => ⟨he, ready.out u' (h.2.2.2.2.2.2.2.2.out.later hb)⟩)
  have R := Lib.hid (ready.out _ F11.out.drew)
  have hut := Try.underlying28
  have hit : (Try.prog.info? 28).map (·.size) = some (i64s T).length := by rw [i64s_length]; exact LVS.out
  clear E0 E1 E2 E3 E3' E4 E5 E6 E7 E8 E9 E10 E11 F11 hA h1 h2 hAt hRAt hPut hRPut hSm hRSm hRt hRRt LV LVS LTS Z4 Z6 LT4
  have heq2 : ∀ u, (Op.equalIn 10000 28 (.agg (i64s T).toArray) (.agg (i64s T).toArray)).run Try.prog u = .ok true u := heq
  clear heq
  generalize i64s T = TT at *
  refine wp_region_held_drew (S := fun u => u.cell? ⟨w3.heap.size, 0, none⟩ = some (.int .i64 W) ∧ u.cell? ⟨w3.heap.size, 1, none⟩ = some (.int .i64 H) ∧ u.cell? ⟨w3.heap.size, 2, none⟩ = some (.slice A n c) ∧ u.cell? ⟨w.heap.size, 3, none⟩ = some (.int .i64 W') ∧ u.cell? ⟨w.heap.size, 4, none⟩ = some (.int .i64 H') ∧ u.cell? ⟨w.heap.size, 5, none⟩ = some (.slice A' n' c') ∧ u.rangeAt w4.heap.size 0 (TT) ∧ u.rangeAt w6.heap.size 0 (TT) ∧ Hid (Env w [(w3.heap.size, 24, imL W H A n c), (w.heap.size, 25, imL W H A n c ++ imL W' H' A' n' c'), (w4.heap.size, 28, TT), (w6.heap.size, 28, TT)] [(img W H A n c, W, H, xs), (img W' H' A' n' c', W', H', ys)] u)) (by kernel_rfl) R.out (fun kS => ?_)
  refine takeL (i := 0) (v := _) rfl (by kernel_rfl) (by kernel_rfl) (by kernel_rfl) (fun _ _ _ h => h) (Or.inl ⟨by rfl, (by intro u hSu; (try dsimp only at hSu); go_simp; try with_reducible rfl)⟩) kS ?_
  try simp only [Act.put, List.setIfInBounds_toArray, List.set_cons_zero, List.set_cons_succ]
  refine takeL (i := 1) (v := _) rfl (by kernel_rfl) (by kernel_rfl) (by kernel_rfl) (fun _ _ _ h => h) (Or.inl ⟨by rfl, (by intro u hSu; (try dsimp only at hSu); go_simp; try with_reducible rfl)⟩) kS ?_
  try simp only [Act.put, List.setIfInBounds_toArray, List.set_cons_zero, List.set_cons_succ]
  refine takeL (i := 2) (v := _) rfl (by kernel_rfl) (by kernel_rfl) (by kernel_rfl) (fun _ _ _ h => h) (Or.inl ⟨by rfl, (by intro u hSu; (try dsimp only at hSu); go_simp; try with_reducible rfl)⟩) kS ?_
  try simp only [Act.put, List.setIfInBounds_toArray, List.set_cons_zero, List.set_cons_succ]
  refine takeL (i := 4) (v := _) rfl (by kernel_rfl) (by kernel_rfl) (by kernel_rfl) (fun _ _ _ h => h) (Or.inl ⟨by rfl, (by intro u hSu; (try dsimp only at hSu); go_simp; try with_reducible rfl)⟩) kS ?_
  try simp only [Act.put, List.setIfInBounds_toArray, List.set_cons_zero, List.set_cons_succ]
  refine callL (i := 3) rfl (by kernel_rfl) (fun K hK => ?_)
  go_simp
  refine (kR.out _ kS).mono ?_
  clear kS
  rintro e u1 ⟨rfl, kS⟩
  go_wp2_with fail
  refine hK.out _ _ kS (fun _ => ?_)
  clear hK K
  try simp only [Act.put, List.setIfInBounds_toArray, List.set_cons_zero, List.set_cons_succ]
  refine callL (i := 5) rfl (by kernel_rfl) (fun K hK => ?_)
  go_simp
  refine (kRR.out _ kS).mono ?_
  clear kS
  rintro e u2 ⟨rfl, kS⟩
  go_wp2_with fail
  refine hK.out _ _ kS (fun _ => ?_)
  clear hK K
  try simp only [Act.put, List.setIfInBounds_toArray, List.set_cons_zero, List.set_cons_succ]
  refine takeL (i := 6) (v := _) rfl (by kernel_rfl) (by kernel_rfl) (by kernel_rfl) (fun _ _ _ h => h) (Or.inl ⟨by rfl, (by intro u hSu; (try dsimp only at hSu); go_simp; try with_reducible rfl)⟩) kS ?_
  try simp only [Act.put, List.setIfInBounds_toArray, List.set_cons_zero, List.set_cons_succ]
  refine takeL (i := 7) (v := _) rfl (by kernel_rfl) (by kernel_rfl) (by kernel_rfl) (fun _ _ _ h => h) (Or.inl ⟨by rfl, (by intro u hSu; (try dsimp only at hSu); go_simp; try with_reducible rfl)⟩) kS ?_
  try simp only [Act.put, List.setIfInBounds_toArray, List.set_cons_zero, List.set_cons_succ]
  refine takeL (i := 8) (v := _) rfl (by kernel_rfl) (by kernel_rfl) (by kernel_rfl) (fun _ _ _ h => h) (Or.inl ⟨by rfl, (by intro u hSu; (try dsimp only at hSu); go_simp; try with_reducible rfl)⟩) kS ?_
  try simp only [Act.put, List.setIfInBounds_toArray, List.set_cons_zero, List.set_cons_succ]
  refine takeL (i := 9) rfl (by kernel_rfl) (by kernel_rfl) (by kernel_rfl) (fun _ _ _ h => h) (yieldsIf_load_mid (by rfl) _ _ rfl _ _ rfl _ _ (fun u hu => hu.2.2.2.2.2.2.1) hut rfl hit) kS ?_
  try simp only [Act.put, List.setIfInBounds_toArray, List.set_cons_zero, List.set_cons_succ]
  refine takeL (i := 10) rfl (by kernel_rfl) (by kernel_rfl) (by kernel_rfl) (fun _ _ _ h => h) (yieldsIf_load_mid (by rfl) _ _ rfl _ _ rfl _ _ (fun u hu => hu.2.2.2.2.2.2.2.1) hut rfl hit) kS ?_
  try simp only [Act.put, List.setIfInBounds_toArray, List.set_cons_zero, List.set_cons_succ]
  refine takeL (i := 11) (v := _) rfl (by kernel_rfl) (by kernel_rfl) (by kernel_rfl) (fun _ _ _ h => h) (Or.inl ⟨by rfl, (by intro u hSu; (try dsimp only at hSu); go_simp; try with_reducible rfl)⟩) kS ?_
  try simp only [Act.put, List.setIfInBounds_toArray, List.set_cons_zero, List.set_cons_succ]
  refine takeL (i := 12) (v := _) rfl (by kernel_rfl) (by kernel_rfl) (by kernel_rfl) (fun _ _ _ h => h) (Or.inl ⟨by rfl, (by intro u hSu; (try dsimp only at hSu); go_simp; try with_reducible rfl)⟩) kS ?_
  try simp only [Act.put, List.setIfInBounds_toArray, List.set_cons_zero, List.set_cons_succ]
  refine takeL (i := 13) (v := _) rfl (by kernel_rfl) (by kernel_rfl) (by kernel_rfl) (fun _ _ _ h => h) (Or.inl ⟨by rfl, (by intro u hSu; (try dsimp only at hSu); go_simp; try with_reducible rfl)⟩) kS ?_
  try simp only [Act.put, List.setIfInBounds_toArray, List.set_cons_zero, List.set_cons_succ]
  refine takeL (i := 14) (v := _) rfl (by kernel_rfl) (by kernel_rfl) (by kernel_rfl) (fun _ _ _ h => h) (Or.inl ⟨by rfl, (by intro u hSu; (try dsimp only at hSu); go_simp; try with_reducible rfl)⟩) kS ?_
  try simp only [Act.put, List.setIfInBounds_toArray, List.set_cons_zero, List.set_cons_succ]
  refine takeL (i := 15) (v := _) rfl (by kernel_rfl) (by kernel_rfl) (by kernel_rfl) (fun _ _ _ h => h) (Or.inl ⟨by rfl, (by intro u hSu; (try dsimp only at hSu); go_simp; try with_reducible rfl)⟩) kS ?_
  try simp only [Act.put, List.setIfInBounds_toArray, List.set_cons_zero, List.set_cons_succ]
  refine takeL (i := 16) (v := _) rfl (by kernel_rfl) (by kernel_rfl) (by kernel_rfl) (fun _ _ _ h => h) (Or.inl ⟨by rfl, (by intro u hSu; (try dsimp only at hSu); go_simp; try with_reducible rfl)⟩) kS ?_
  try simp only [Act.put, List.setIfInBounds_toArray, List.set_cons_zero, List.set_cons_succ]
  refine takeL (i := 17) (v := _) rfl (by kernel_rfl) (by kernel_rfl) (by kernel_rfl) (fun _ _ _ h => h) (Or.inl ⟨by rfl, (by intro u hSu; (try dsimp only at hSu); go_simp; try with_reducible rfl)⟩) kS ?_
  try simp only [Act.put, List.setIfInBounds_toArray, List.set_cons_zero, List.set_cons_succ]
  refine takeL (i := 18) (v := _) rfl (by kernel_rfl) (by kernel_rfl) (by kernel_rfl) (fun _ _ _ h => h) (Or.inl ⟨by rfl, (by intro u hSu; (try dsimp only at hSu); go_simp; try with_reducible rfl)⟩) kS ?_
  try simp only [Act.put, List.setIfInBounds_toArray, List.set_cons_zero, List.set_cons_succ]
  refine takeL (i := 19) (v := _) rfl (by kernel_rfl) (by kernel_rfl) (by kernel_rfl) (fun _ _ _ h => h) (Or.inl ⟨by rfl, (by intro u hSu; (try dsimp only at hSu); go_simp; try with_reducible rfl)⟩) kS ?_
  try simp only [Act.put, List.setIfInBounds_toArray, List.set_cons_zero, List.set_cons_succ]
  refine takeL (i := 20) (v := _) rfl (by kernel_rfl) (by kernel_rfl) (by kernel_rfl) (fun _ _ _ h => h) (Or.inl ⟨by rfl, (by intro u hSu; (try dsimp only at hSu); go_simp; try with_reducible rfl)⟩) kS ?_
  try simp only [Act.put, List.setIfInBounds_toArray, List.set_cons_zero, List.set_cons_succ]
  refine takeL (i := 21) (v := _) rfl (by kernel_rfl) (by kernel_rfl) (by kernel_rfl) (fun _ _ _ h => h) (Or.inl ⟨by rfl, (by intro u hSu; (try dsimp only at hSu); go_simp; try with_reducible rfl)⟩) kS ?_
  try simp only [Act.put, List.setIfInBounds_toArray, List.set_cons_zero, List.set_cons_succ]
  refine takeL (i := 22) (v := _) rfl (by kernel_rfl) (by kernel_rfl) (by kernel_rfl) (fun _ _ _ h => h) (Or.inl ⟨by rfl, (by intro u hSu; (try dsimp only at hSu); go_simp; try with_reducible rfl)⟩) kS ?_
  try simp only [Act.put, List.setIfInBounds_toArray, List.set_cons_zero, List.set_cons_succ]
  refine takeL (i := 23) (v := _) rfl (by kernel_rfl) (by kernel_rfl) (by kernel_rfl) (fun _ _ _ h => h) (Or.inl ⟨by rfl, (by intro u hSu; (try dsimp only at hSu); go_simp; try with_reducible rfl)⟩) kS ?_
  try simp only [Act.put, List.setIfInBounds_toArray, List.set_cons_zero, List.set_cons_succ]
  refine takeL (i := 24) (v := _) rfl (by kernel_rfl) (by kernel_rfl) (by kernel_rfl) (fun _ _ _ h => h) (Or.inl ⟨by rfl, (by intro u hSu; (try dsimp only at hSu); go_simp; try with_reducible rfl)⟩) kS ?_
  try simp only [Act.put, List.setIfInBounds_toArray, List.set_cons_zero, List.set_cons_succ]
  refine takeL (i := 25) (v := _) rfl (by kernel_rfl) (by kernel_rfl) (by kernel_rfl) (fun _ _ _ h => h) (Or.inl ⟨by rfl, (by intro u hSu; (try dsimp only at hSu); go_simp; try with_reducible rfl)⟩) kS ?_
  try simp only [Act.put, List.setIfInBounds_toArray, List.set_cons_zero, List.set_cons_succ]
  refine takeL (i := 26) (v := _) rfl (by kernel_rfl) (by kernel_rfl) (by kernel_rfl) (fun _ _ _ h => h) (Or.inl ⟨by rfl, (by intro u hSu; (try dsimp only at hSu); go_simp; try with_reducible rfl)⟩) kS ?_
  try simp only [Act.put, List.setIfInBounds_toArray, List.set_cons_zero, List.set_cons_succ]
  refine takeL (i := 27) (v := _) rfl (by kernel_rfl) (by kernel_rfl) (by kernel_rfl) (fun _ _ _ h => h) (Or.inl ⟨by rfl, (by intro u hSu; (try dsimp only at hSu); go_simp; try with_reducible rfl)⟩) kS ?_
  try simp only [Act.put, List.setIfInBounds_toArray, List.set_cons_zero, List.set_cons_succ]
  refine takeL (i := 28) (v := _) rfl (by kernel_rfl) (by kernel_rfl) (by kernel_rfl) (fun _ _ _ h => h) (Or.inl ⟨by rfl, (by intro u hSu; (try dsimp only at hSu); go_simp; try with_reducible rfl)⟩) kS ?_
  try simp only [Act.put, List.setIfInBounds_toArray, List.set_cons_zero, List.set_cons_succ]
  refine takeL (i := 29) (v := _) rfl (by kernel_rfl) (by kernel_rfl) (by kernel_rfl) (fun _ _ _ h => h) (Or.inl ⟨by rfl, (by intro u hSu; (try dsimp only at hSu); go_simp; try with_reducible rfl)⟩) kS ?_
  try simp only [Act.put, List.setIfInBounds_toArray, List.set_cons_zero, List.set_cons_succ]
  refine takeL (i := 31) (v := _) rfl (by kernel_rfl) (by kernel_rfl) (by kernel_rfl) (fun _ _ _ h => h) (Or.inl ⟨by rfl, (by intro u hSu; (try dsimp only at hSu); go_simp; try with_reducible rfl)⟩) kS ?_
  try simp only [Act.put, List.setIfInBounds_toArray, List.set_cons_zero, List.set_cons_succ]
  refine callL (i := 30) rfl (by kernel_rfl) (fun K hK => ?_)
  go_simp
  refine (kSm.out _ kS).mono ?_
  clear kS
  rintro e u3 ⟨rfl, kS⟩
  go_wp2_with fail
  refine hK.out _ _ kS (fun _ => ?_)
  clear hK K
  try simp only [Act.put, List.setIfInBounds_toArray, List.set_cons_zero, List.set_cons_succ]
  refine takeL (i := 32) (v := _) rfl (by kernel_rfl) (by kernel_rfl) (by kernel_rfl) (fun _ _ _ h => h) (Or.inl ⟨by rfl, (by intro u hSu; (try dsimp only at hSu); go_simp; try with_reducible rfl)⟩) kS ?_
  try simp only [Act.put, List.setIfInBounds_toArray, List.set_cons_zero, List.set_cons_succ]
  refine takeL (i := 33) (v := _) rfl (by kernel_rfl) (by kernel_rfl) (by kernel_rfl) (fun _ _ _ h => h) (Or.inl ⟨by rfl, (by intro u hSu; (try dsimp only at hSu); go_simp; try with_reducible rfl)⟩) kS ?_
  try simp only [Act.put, List.setIfInBounds_toArray, List.set_cons_zero, List.set_cons_succ]
  refine takeL (i := 34) (v := _) rfl (by kernel_rfl) (by kernel_rfl) (by kernel_rfl) (fun _ _ _ h => h) (Or.inl ⟨by rfl, (by intro u hSu; (try dsimp only at hSu); go_simp; try with_reducible rfl)⟩) kS ?_
  try simp only [Act.put, List.setIfInBounds_toArray, List.set_cons_zero, List.set_cons_succ]
  refine wpAnyH_done (by kernel_rfl) ?_ _
  go_wp2
  go_ret
  exact ⟨rfl, kS.2.2.2.2.2.2.2.2.out.bel⟩

theorem walk (W H : Int) (A : Option Addr) (n c : Nat) (W' H' : Int) (A' : Option Addr) (n' c' : Nat) (xs ys : List Nat) (x y : Int) (t : List Int) (w : World) (hB : Bs w w.heap.size A n xs) (hB' : Bs w w.heap.size A' n' ys) (hn : n ≤ 9223372036854775807) (hn' : n' ≤ 9223372036854775807) (ht : t.length = 4 * 1) :
    Calls Try.prog 3 #[.agg (imL W H A n c ++ imL W' H' A' n' c').toArray, .agg #[.int .i64 x, .int .i64 y], arr t] w fun e w' => e = .returned (.bool true) ∧ Below w.heap.size w w' := by
  by_cases h1 : lightB W H n = true
  · by_cases h2 : lightB W' H' n' = true
    · exact lit W H A n c W' H' A' n' c' xs ys x y t w hB hB' ht h1 h2
    · exact dark W H A n c W' H' A' n' c' x y t w hn hn' (.inr (by simpa using h2))
  · exact dark W H A n c W' H' A' n' c' x y t w hn hn' (.inl (by simpa using h1))

theorem own : ownKnob Try.prog.godebug = none := by kernel_rfl
theorem laidOut : laidOutB Try.prog = true := by kernel_rfl

set_option maxRecDepth 100000 in
theorem lifted (os : Os) (started : os.Started) (H : Type) (enc : TypeId × Value → H) :
    ReturnsInHanded {} Try.checked os 3 .any (Rows.imageTellsSpec.pre6 enc Try.prog Try.f3 Rows.imageTellsRow.domain false) (Rows.imageTellsSpec.post enc Try.prog Try.f3 false true false false) := by
  refine returnsInHanded_of_change (C := Try.checked) own started (by kernel_rfl) Try.func3
    (ChangeSpec.witness6 (enc := enc) (C := Try.checked) false ⟨#[], #[.agg #[.int .i64 0, .int .i64 0, .slice none 0 0, .int .i64 0, .int .i64 0, .slice none 0 0], .agg #[.int .i64 0, .int .i64 0], .agg #[.int .i64 0, .int .i64 0, .int .i64 0, .int .i64 0]], []⟩ 8 (by kernel_rfl) (by kernel_rfl) (by kernel_rfl) (by kernel_rfl)) ?_
  intro W base args ds gs before hval0 hW hcnd _
  have hval : ∀ (j : Nat) t v, Try.f3.params[j]? = some t → args[j]? = some v → Value.okWide Try.prog W .any base t v := hval0
  have hW' := hW
  obtain ⟨p, q, hA0, hV, rfl, hfz, hnd⟩ := hW
  have hA : DataW.TrodAll enc Try.prog W 0 (fun _ => true) true Try.f3.params.toList args.toList ds p := hA0
  rw [Try.params3] at hA hval
  obtain ⟨v0, vs0, d0, ds0, p0, q0, hargs, rfl, rfl, h0, r0⟩ := trodAll_cons hA
  obtain ⟨v1, vs1, d1, ds1, p1, q1, rfl, rfl, rfl, h1, r1⟩ := trodAll_cons r0
  obtain ⟨v2, vs2, d2, ds2, p2, q2, rfl, rfl, rfl, h2, r2⟩ := trodAll_cons r1
  obtain ⟨rfl, rfl, rfl⟩ := trodAll_nil r2
  obtain rfl : args = #[v0, v1, v2] := by cases args; simp_all
  have lt0 : ∀ x ∈ p0, x.block < W.heap.size := by obtain ⟨m, hm⟩ := h0; exact DataW.trod_lt m _ _ _ hm
  have lt1 : ∀ x ∈ p1, x.block < W.heap.size := by obtain ⟨m, hm⟩ := h1; exact DataW.trod_lt m _ _ _ hm
  have lt2 : ∀ x ∈ p2, x.block < W.heap.size := by obtain ⟨m, hm⟩ := h2; exact DataW.trod_lt m _ _ _ hm
  obtain ⟨rfl, rfl⟩ := trodVars_none hV
  obtain ⟨W0, H0, A0, n0, c0, xs0, W0', H0', A0', n0', c0', xs0', rfl, ⟨hB0, hn0, bW0, bH0⟩, ⟨hB0', hn0', bW0', bH0'⟩⟩ := open_2imgs Try.underlying25 (by kernel_rfl) Try.underlying24 (by kernel_rfl) rfl rfl rfl Try.underlying3 Try.underlying22 Try.underlying5 (by kernel_rfl) (by kernel_rfl) (hval 0 25 v0 rfl rfl) h0
  obtain ⟨x10, x11, rfl, b10, b11⟩ := open_arr2 Try.underlying26 Try.underlying3 (by kernel_rfl) (by kernel_rfl) (hval 1 26 v1 rfl rfl) h1
  obtain ⟨zs2, rfl, hl2, hz2⟩ := open_flat Try.underlying28 (Flat.array (n := 4) (m := 1) Try.underlying28 (by kernel_rfl) (by omega) (Flat.int Try.underlying3 (by kernel_rfl))) (hval 2 28 v2 rfl rfl) h2
  clear hA0 hval0
  refine (walk W0 H0 A0 n0 c0 W0' H0' A0' n0' c0' xs0 xs0' x10 x11 zs2 W hB0 hB0' hn0 hn0' hl2).mono fun e W' ⟨he, bel⟩ => ?_
  subst he
  exact ⟨_, rfl, _, _, _, [], _, [], hW', trodAll_mk1 (shut_bool Try.underlying4 _), (trodAll_cons_mk (Below.trod laidOut (by kernel_rfl) (of_decide_eq_true (by kernel_rfl)) h0 bel lt0) (trodAll_cons_mk (Below.trod laidOut (by kernel_rfl) (of_decide_eq_true (by kernel_rfl)) h1 bel lt1) (trodAll_cons_mk (Below.trod laidOut (by kernel_rfl) (of_decide_eq_true (by kernel_rfl)) h2 bel lt2) trodAll_mk0))), rfl, bel.frame _, fun h => by cases h⟩

theorem over : Rows.imageTellsRow.holds Try.pinned (OpenSpec.ofChange Rows.imageTellsSpec) :=
  OpenClaim.holds_of_wide 3 Try.f3 rfl rfl rfl rfl rfl rfl rfl ⟨rfl, rfl, rfl, rfl, rfl⟩ rfl rfl rfl rfl rfl (by kernel_rfl) Try.func3 (by kernel_rfl)
    (of_decide_eq_true (by kernel_rfl)) (by unfold Func.isWrapper; first | (rw [if_pos (by decide +kernel)]; kernel_rfl) | (rw [if_neg (by decide +kernel)]; exact ⟨rfl, rfl⟩))
    (fun os started H enc _ => lifted os started H enc)
end Go.Proofs.Ytnlaelbceloliaa.imageTells

namespace Go.Proofs.Ytnlaelbceloliaa
theorem imageTells_holds : Rows.ImageTellsSaid := imageTells.over
#print axioms imageTells_holds
end Go.Proofs.Ytnlaelbceloliaa
