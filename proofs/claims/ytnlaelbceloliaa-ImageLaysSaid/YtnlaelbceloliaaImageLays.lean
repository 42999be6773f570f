/- ImageLays. -/
import Derived.Test.YtnlaelbceloliaaRows
import Derived.Test.YtnlaelbceloliaaImAwake
import Derived.Test.YtnlaelbceloliaaImEnv
import Derived.Test.YtnlaelbceloliaaImCover
import Derived.Test.YtnlaelbceloliaaImPure
import Derived.Test.YtnlaelbceloliaaOpenIm
namespace Go.Proofs.Ytnlaelbceloliaa.imageLays
open Go.ChangeShapes Go.WideShapes Go.ChangeAt Go.RowKit
open Im


theorem wpList_load_part_if {P : Program} {w : World} {ops : Array Oper} {rest : List Oper} {o : Oper} {a : Act} {Q : Exit → Act → World → Prop} (hw : Region.wanted o (yielded ops a.tmps) = true) (ty : TypeId) (x : Operand) (ho : o.op = .load ty x)
    (g off : Nat) (hx : a.eval x = .pointer (some ⟨g, off, none⟩)) (t : TypeId) (zs : List Int) (n m : Nat) (e : TypeId) (hg : Row w g t (i64s zs)) (hm : off + m ≤ zs.length)
    (hu : P.underlying ty = some (.array n e)) (hi : (P.info? ty).map (·.size) = some m)
    (h : wpList P ops Q rest (a.put o.dst (arr ((zs.drop off).take m))) w) : wpList P ops Q (o :: rest) a w :=
  wpList_wanted hw fun _ hK => wp_load_mid ty x ho g off hx _ _ (hg.range off m) hu rfl (by rw [hi, i64s_length, List.length_take, List.length_drop]; congr 1; omega) (hK _ _ h)

theorem start (W H : Int) (A : Option Addr) (n c : Nat) (x y : Int) (t : List Int) (w : World) (M : List (Value × Int × Int × List Nat)) (hM : ∀ i ∈ M, Img w i.1 i.2.1 i.2.2.1 i.2.2.2) :
    Env w [(w.heap.size + 2, 40, i64s t), (w.heap.size + 1, 26, [Value.int .i64 x, .int .i64 y]), (w.heap.size, 24, imL W H A n c)] M (((w.alloc (.cells (imL W H A n c).toArray 24)).alloc (.cells [Value.int .i64 x, .int .i64 y].toArray 26)).alloc (.cells (i64s t).toArray 40)) := by
  have e0 : Env w [] M w := ⟨by simp, hM, Below.refl _ _⟩
  have e1 := ((e0.new 24 (imL W H A n c)).new 26 [Value.int .i64 x, .int .i64 y]).new 40 (i64s t)
  simpa using e1

set_option maxHeartbeats 1000000 in
theorem dark (W H : Int) (A : Option Addr) (n c : Nat) (x y : Int) (t : List Int) (w : World) (hn : n ≤ 9223372036854775807) (hd : lightB W H n = false ∨ (lightB W H n = true ∧ ¬ rightP W H n)) :
    Calls Try.prog 6 #[img W H A n c, .agg #[.int .i64 x, .int .i64 y], arr t] w fun e w' => e = .returned (.bool true) ∧ Below w.heap.size w w' := by
  have E0 := Lib.hid (start W H A n c x y t w [] (by simp))
  have hA := Lib.hid awake_any
  have h1 := Lib.hid (fun u => light_any W H A n c u hn)
  have h2 := Lib.hid (fun u => right_any W H A n c u hn)
  rcases hd with hd | ⟨hd, hr⟩
  · rw [hd] at h1
    clear hd
    go_enter Try.func6, Try.ntmps6
    go_wp2_with (first
      | (go_at_call 7; refine (hA.out _).mono ?_; rintro e w1 ⟨rfl, hb⟩; have E1 := Lib.hid (E0.out.later hb); clear hb; have i10 := (E1.out.row (g := w.heap.size) (t := 24) (vs := imL W H A n c) (by simp)).cell 0 _ rfl; have i11 := (E1.out.row (g := w.heap.size) (t := 24) (vs := imL W H A n c) (by simp)).cell 1 _ rfl; have i12 := (E1.out.row (g := w.heap.size) (t := 24) (vs := imL W H A n c) (by simp)).cell 2 _ rfl)
      | (go_at_call 8; refine (h1.out w1).mono ?_; rintro e w2 ⟨rfl, hb⟩; have E2 := Lib.hid (E1.out.later hb); clear hb))
    go_ret
    exact ⟨rfl, E2.out.bel⟩
  · rw [hd] at h1
    rw [decide_eq_false hr] at h2
    clear hd hr
    go_enter Try.func6, Try.ntmps6
    go_wp2_with (first
      | (go_at_call 7; refine (hA.out _).mono ?_; rintro e w1 ⟨rfl, hb⟩; have E1 := Lib.hid (E0.out.later hb); clear hb; have i10 := (E1.out.row (g := w.heap.size) (t := 24) (vs := imL W H A n c) (by simp)).cell 0 _ rfl; have i11 := (E1.out.row (g := w.heap.size) (t := 24) (vs := imL W H A n c) (by simp)).cell 1 _ rfl; have i12 := (E1.out.row (g := w.heap.size) (t := 24) (vs := imL W H A n c) (by simp)).cell 2 _ rfl)
      | (go_at_call 8; refine (h1.out w1).mono ?_; rintro e w2 ⟨rfl, hb⟩; have E2 := Lib.hid (E1.out.later hb); clear hb; have i20 := (E2.out.row (g := w.heap.size) (t := 24) (vs := imL W H A n c) (by simp)).cell 0 _ rfl; have i21 := (E2.out.row (g := w.heap.size) (t := 24) (vs := imL W H A n c) (by simp)).cell 1 _ rfl; have i22 := (E2.out.row (g := w.heap.size) (t := 24) (vs := imL W H A n c) (by simp)).cell 2 _ rfl)
      | (go_at_call 15; refine (h2.out w2).mono ?_; rintro e w3 ⟨rfl, hb⟩; have E3 := Lib.hid (E2.out.later hb); clear hb))
    go_ret
    exact ⟨rfl, E3.out.bel⟩

set_option maxHeartbeats 1000000 in
set_option maxRecDepth 100000 in
theorem lacks (W H : Int) (A : Option Addr) (n c : Nat) (xs : List Nat) (x y : Int) (t : List Int) (w : World) (hB : Bs w w.heap.size A n xs) (hl : lightB W H n = true) (hr : rightP W H n) (hp : ¬ hasP W H n x y) (ht : t.length = 64) :
    Calls Try.prog 6 #[img W H A n c, .agg #[.int .i64 x, .int .i64 y], arr t] w fun e w' => e = .returned (.bool true) ∧ Below w.heap.size w w' := by
  have hn := lightB_le hl
  have hsz := hr.1
  unfold szP at hsz
  have E0 := Lib.hid (start W H A n c x y t w [(img W H A n c, W, H, xs)] (by
    intro i hi
    rcases List.mem_cons.1 hi with rfl | hi
    · exact ⟨A, n, c, rfl, by omega, hB⟩
    · cases hi))
  have hA := Lib.hid awake_any
  have h1 := Lib.hid (fun u => light_any W H A n c u (by omega))
  have h2 := Lib.hid (fun u => right_any W H A n c u (by omega))
  have h3 := Lib.hid (fun (u : World) (h : Img u (img W H A n c) W H xs) => lay_any _ W H xs x y t u h (by omega) (by omega) ht)
  rw [hl] at h1
  rw [decide_eq_true hr] at h2
  rw [hB.1] at h3
  simp only [show ∀ z, putW (hasP W H n x y) z = 0 from fun z => if_neg hp, show ∀ z, putX (hasP W H n x y) z = [] from fun z => if_neg hp, show noE (hasP W H n x y) = 1 from if_neg hp] at h3
  have LS := Lib.hid (show (Try.prog.info? 40).map (·.size) = some t.length from by rw [ht]; exact size_tile)
  clear hl hr hp hB hn hsz
  go_enter Try.func6, Try.ntmps6
  go_wp2_with (first
    | (go_at_call 7; refine (hA.out _).mono ?_; rintro e w1 ⟨rfl, hb⟩; have E1 := Lib.hid (E0.out.later hb); clear hb; have i10 := (E1.out.row (g := w.heap.size) (t := 24) (vs := imL W H A n c) (by simp)).cell 0 _ rfl; have i11 := (E1.out.row (g := w.heap.size) (t := 24) (vs := imL W H A n c) (by simp)).cell 1 _ rfl; have i12 := (E1.out.row (g := w.heap.size) (t := 24) (vs := imL W H A n c) (by simp)).cell 2 _ rfl)
    | (go_at_call 8; refine (h1.out w1).mono ?_; rintro e w2 ⟨rfl, hb⟩; have E2 := Lib.hid (E1.out.later hb); clear hb; have i20 := (E2.out.row (g := w.heap.size) (t := 24) (vs := imL W H A n c) (by simp)).cell 0 _ rfl; have i21 := (E2.out.row (g := w.heap.size) (t := 24) (vs := imL W H A n c) (by simp)).cell 1 _ rfl; have i22 := (E2.out.row (g := w.heap.size) (t := 24) (vs := imL W H A n c) (by simp)).cell 2 _ rfl)
    | (go_at_call 15; refine (h2.out w2).mono ?_; rintro e w3 ⟨rfl, hb⟩; have E3 := Lib.hid (E2.out.later hb); clear hb; have i30 := (E3.out.row (g := w.heap.size) (t := 24) (vs := imL W H A n c) (by simp)).cell 0 _ rfl; have i31 := (E3.out.row (g := w.heap.size) (t := 24) (vs := imL W H A n c) (by simp)).cell 1 _ rfl; have i32 := (E3.out.row (g := w.heap.size) (t := 24) (vs := imL W H A n c) (by simp)).cell 2 _ rfl; have p30 := (E3.out.row (g := w.heap.size + 1) (t := 26) (vs := [Value.int .i64 x, .int .i64 y]) (by simp)).cell 0 _ rfl; have p31 := (E3.out.row (g := w.heap.size + 1) (t := 26) (vs := [Value.int .i64 x, .int .i64 y]) (by simp)).cell 1 _ rfl; have T3 := Lib.hid (E3.out.row (g := w.heap.size + 2) (t := 40) (vs := i64s t) (by simp)))
    | (with_reducible refine wpList_load_ints rfl 40 (.tmp 5) rfl (w.heap.size + 2) rfl 40 t 16 28 T3.out Try.underlying40 LS.out ?_)
    | (go_at_call 20; refine (h3.out _ (E3.out.image (by simp))).mono ?_; rintro e w4 ⟨v4, rfl, hI4, hb⟩; obtain ⟨A4, n4, c4, rfl, hn4, hB4⟩ := hI4; have E4 := Lib.hid ((E3.out.later hb).alloc (.cells (imL 0 0 A4 n4 c4).toArray 24)); clear hb))
  go_ret
  exact ⟨rfl, E4.out.bel⟩


set_option maxHeartbeats 4000000 in
set_option maxRecDepth 100000 in
theorem lit (W H : Int) (A : Option Addr) (n c : Nat) (xs : List Nat) (x y : Int) (t : List Int) (w : World) (hB : Bs w w.heap.size A n xs) (hl : lightB W H n = true) (hr : rightP W H n) (hp : hasP W H n x y) (ht : t.length = 64) :
    Calls Try.prog 6 #[img W H A n c, .agg #[.int .i64 x, .int .i64 y], arr t] w fun e w' => e = .returned (.bool true) ∧ Below w.heap.size w w' := by
  have hn := lightB_le hl
  have hsz := hr.1
  unfold szP at hsz
  obtain ⟨s1, s2, s3, s4⟩ := hsz
  have hin := tl_in hp
  have HLX := Lib.hid hB.1
  have HP := Lib.hid hp
  have HR := Lib.hid hr
  have E0 := Lib.hid (start W H A n c x y t w [(img W H A n c, W, H, xs)] (by
    intro i hi
    rcases List.mem_cons.1 hi with rfl | hi
    · exact ⟨A, n, c, rfl, by omega, hB⟩
    · cases hi))
  have hA := Lib.hid awake_any
  have h1 := Lib.hid (fun u => light_any W H A n c u (by omega))
  have h2 := Lib.hid (fun u => right_any W H A n c u (by omega))
  have h3 := Lib.hid (fun (u : World) (h : Img u (img W H A n c) W H xs) => lay_any _ W H xs x y t u h (by omega) (by omega) ht)
  rw [hl] at h1
  rw [decide_eq_true hr] at h2
  rw [hB.1] at h3
  simp only [show ∀ z, putW (hasP W H n x y) z = z from fun z => if_pos hp, show ∀ z, putX (hasP W H n x y) z = z from fun z => if_pos hp, show noE (hasP W H n x y) = 0 from if_pos hp] at h3
  have LS := Lib.hid (show (Try.prog.info? 40).map (·.size) = some t.length from by rw [ht]; exact size_tile)
  have HY := Lib.hid (show (layK W H xs x y t 16).length = n from layK_len W H xs x y t n hB.1)
  have HTex := Lib.hid (fun (X Y : Int) (hi : insP X Y W H) => lay_tex xs t hp hB.1 ht hi)
  have HT := Lib.hid ht
  clear hl hr hp hB ht
  generalize layK W H xs x y t 16 = ys at *
  go_enter Try.func6, Try.ntmps6
  go_wp2_with (first
    | (go_at_call 7; refine (hA.out _).mono ?_; rintro e w1 ⟨rfl, hb⟩; have E1 := Lib.hid (E0.out.later hb); clear hb; have i10 := (E1.out.row (g := w.heap.size) (t := 24) (vs := imL W H A n c) (by simp)).cell 0 _ rfl; have i11 := (E1.out.row (g := w.heap.size) (t := 24) (vs := imL W H A n c) (by simp)).cell 1 _ rfl; have i12 := (E1.out.row (g := w.heap.size) (t := 24) (vs := imL W H A n c) (by simp)).cell 2 _ rfl)
    | (go_at_call 8; refine (h1.out w1).mono ?_; rintro e w2 ⟨rfl, hb⟩; have E2 := Lib.hid (E1.out.later hb); clear hb; have i20 := (E2.out.row (g := w.heap.size) (t := 24) (vs := imL W H A n c) (by simp)).cell 0 _ rfl; have i21 := (E2.out.row (g := w.heap.size) (t := 24) (vs := imL W H A n c) (by simp)).cell 1 _ rfl; have i22 := (E2.out.row (g := w.heap.size) (t := 24) (vs := imL W H A n c) (by simp)).cell 2 _ rfl)
    | (go_at_call 15; refine (h2.out w2).mono ?_; rintro e w3 ⟨rfl, hb⟩; have E3 := Lib.hid (E2.out.later hb); clear hb; have i30 := (E3.out.row (g := w.heap.size) (t := 24) (vs := imL W H A n c) (by simp)).cell 0 _ rfl; have i31 := (E3.out.row (g := w.heap.size) (t := 24) (vs := imL W H A n c) (by simp)).cell 1 _ rfl; have i32 := (E3.out.row (g := w.heap.size) (t := 24) (vs := imL W H A n c) (by simp)).cell 2 _ rfl; have p30 := (E3.out.row (g := w.heap.size + 1) (t := 26) (vs := [Value.int .i64 x, .int .i64 y]) (by simp)).cell 0 _ rfl; have p31 := (E3.out.row (g := w.heap.size + 1) (t := 26) (vs := [Value.int .i64 x, .int .i64 y]) (by simp)).cell 1 _ rfl; have T3 := Lib.hid (E3.out.row (g := w.heap.size + 2) (t := 40) (vs := i64s t) (by simp)))
    | (with_reducible refine wpList_load_ints rfl 40 (.tmp 5) rfl (w.heap.size + 2) rfl 40 t 16 28 T3.out Try.underlying40 LS.out ?_)
    | (go_at_call 20; refine (h3.out _ (E3.out.image (by simp))).mono ?_; rintro e w4 ⟨v4, rfl, hI4, hb⟩; obtain ⟨A4, n4, c4, rfl, hn4, hB4⟩ := hI4; obtain rfl : n = n4 := HY.out.symm.trans hB4.1; have E4 := Lib.hid (((E3.out.later hb).img (show Img w4 (img W H A4 n c4) W H ys from ⟨A4, n, c4, rfl, hn4, hB4⟩)).new 24 (imL W H A4 n c4)); clear hb hn4 hB4))
  have F4 := Lib.hid (E4.out.part [(w4.heap.size, 24, imL W H A4 n c4), (w.heap.size + 2, 40, i64s t), (w.heap.size + 1, 26, [Value.int .i64 x, .int .i64 y]), (w.heap.size, 24, imL W H A n c)] [(img W H A4 n c4, W, H, ys), (img W H A n c, W, H, xs)] (by simp) (by simp))
  clear E0 E1 E2 E3 E4 T3 hA h1 h2 h3 i10 i11 i12 i20 i21 i22 i30 i31 i32 p30 p31
  have hAt1 := Lib.hid (fun (u : World) (X Y : Int) (h : Img u (img W H A4 n c4) W H ys) => at_any _ W H ys X Y u h)
  have hAt2 := Lib.hid (fun (u : World) (X Y : Int) (h : Img u (img W H A n c) W H xs) => at_any _ W H xs X Y u h)
  have hV := Lib.hid (show ∀ (zs : List Nat) (X Y : Int), zs.length = n → insP X Y W H → atV W H zs X Y = tex zs (plc W X Y) from fun zs X Y hz hi => if_pos ⟨by rw [hz]; exact HR.out, hi⟩)
  go_loopw [11] (fun i wr => ∃ k : Nat, (k : Int) ≤ H ∧ i = .int .i64 k ∧ Hid (Env w [(w4.heap.size, 24, imL W H A4 n c4), (w.heap.size + 2, 40, i64s t), (w.heap.size + 1, 26, [Value.int .i64 x, .int .i64 y]), (w.heap.size, 24, imL W H A n c)] [(img W H A4 n c4, W, H, ys), (img W H A n c, W, H, xs)] wr)) (fun i _ => H.toNat - (intOf i).toNat)
  case atStart => exact ⟨0, by omega, rfl, F4⟩
  case round =>
    clear F4
    obtain ⟨k, hk, rfl, hE⟩ := hrel
    have ia0 := (hE.out.row (g := w.heap.size) (t := 24) (vs := imL W H A n c) (by simp)).cell 0 _ rfl
    have ia1 := (hE.out.row (g := w.heap.size) (t := 24) (vs := imL W H A n c) (by simp)).cell 1 _ rfl
    have ia2 := (hE.out.row (g := w.heap.size) (t := 24) (vs := imL W H A n c) (by simp)).cell 2 _ rfl
    by_cases hlt : (k : Int) < H
    · go_wp2
      try rw [show decide ((k : Int) < H) = true from by simp; omega]
      clear ia0 ia1 ia2
      go_loopw [12] (fun i wr => ∃ j : Nat, (j : Int) ≤ W ∧ i = .int .i64 j ∧ Hid (Env w [(w4.heap.size, 24, imL W H A4 n c4), (w.heap.size + 2, 40, i64s t), (w.heap.size + 1, 26, [Value.int .i64 x, .int .i64 y]), (w.heap.size, 24, imL W H A n c)] [(img W H A4 n c4, W, H, ys), (img W H A n c, W, H, xs)] wr)) (fun i _ => W.toNat - (intOf i).toNat)
      case atStart => exact ⟨0, by omega, rfl, hE⟩
      case round =>
        clear hE
        obtain ⟨j, hj, rfl, hE⟩ := hrel
        have ib0 := (hE.out.row (g := w.heap.size) (t := 24) (vs := imL W H A n c) (by simp)).cell 0 _ rfl
        have ib1 := (hE.out.row (g := w.heap.size) (t := 24) (vs := imL W H A n c) (by simp)).cell 1 _ rfl
        have ib2 := (hE.out.row (g := w.heap.size) (t := 24) (vs := imL W H A n c) (by simp)).cell 2 _ rfl
        have N1 := Lib.hid (hE.out.row (g := w4.heap.size) (t := 24) (vs := imL W H A4 n c4) (by simp))
        by_cases hjt : (j : Int) < W
        · have hins : insP (j : Int) (k : Int) W H := ⟨by omega, hjt, by omega, hlt⟩
          have hA1 := Lib.hid (fun (u : World) (h : Img u (img W H A4 n c4) W H ys) => hAt1.out u j k h)
          have hA2 := Lib.hid (fun (u : World) (h : Img u (img W H A n c) W H xs) => hAt2.out u j k h)
          rw [hV.out ys j k HY.out hins] at hA1
          rw [hV.out xs j k HLX.out hins] at hA2
          have hTT := Lib.hid (HTex.out j k hins)
          obtain ⟨T1, hT1⟩ : ∃ T1, T1 = tex ys (plc W j k) := ⟨_, rfl⟩
          obtain ⟨T2, hT2⟩ : ∃ T2, T2 = tex xs (plc W j k) := ⟨_, rfl⟩
          rw [← hT1] at hA1 hTT
          rw [← hT2] at hA2 hTT
          have L1 := Lib.hid (show T1.length = ([0, 0, 0, 0] : List Int).length from by rw [hT1]; exact tex_length _ _)
          have L2 := Lib.hid (show T2.length = ([0, 0, 0, 0] : List Int).length from by rw [hT2]; exact tex_length _ _)
          have LS1 := Lib.hid (show (Try.prog.info? 28).map (·.size) = some T1.length from by rw [L1.out]; exact size_texel)
          have LS2 := Lib.hid (show (Try.prog.info? 28).map (·.size) = some T2.length from by rw [L2.out]; exact size_texel)
          clear hT1 hT2 hins
          generalize noE (atP W H ys j k) = e1 at *
          generalize noE (atP W H xs j k) = e2 at *
          have heqs := Lib.hid (fun (a b : List Int) (ha : a.length = 4) (hb : b.length = 4) (he : a = b) => show ∀ u, (Op.equalIn 10000 28 (arr a) (arr b)).run Try.prog u = .ok true u from fun u => by rw [eq_texel a b ha hb u, he]; simp)
          by_cases hx4 : (j : Int) / 4 = x
          · by_cases hy4 : (k : Int) / 4 = y
            · have hb1 : ((j : Int) / 4 == x) = true := by simp [hx4]
              have hb2 : ((k : Int) / 4 == y) = true := by simp [hy4]
              obtain ⟨V, hVd⟩ : ∃ V, V = (t.drop ((k % 4 * 4 + j % 4) * 4)).take 4 := ⟨_, rfl⟩
              have hI16 : k % 4 * 4 + j % 4 < 16 := by omega
              have LVV := Lib.hid (show V.length = 4 from by rw [hVd]; exact tx_length HT.out hI16)
              have hTV := Lib.hid (show T1 = clK V 4 from by
                rw [hTT.out, if_pos ⟨hx4, hy4⟩, show ((k : Int) % 4 * 4 + (j : Int) % 4).toNat = k % 4 * 4 + j % 4 from by omega, clK_all V LVV.out, hVd]
                rfl)
              have heq := heqs.out T1 (clK V 4) L1.out (by rw [clK_length]; exact LVV.out) hTV.out
              have HVd := Lib.hid hVd
              have LSV := Lib.hid (show (Try.prog.info? 28).map (·.size) = some V.length from by rw [LVV.out]; exact size_texel)
              have LVT := Lib.hid (show V.length = T2.length from by rw [LVV.out]; exact L2.out.symm)
              have L64 := Lib.hid (show (k % 4 * 4 + j % 4) * 4 + 4 ≤ t.length from by rw [HT.out]; omega)
              have hi1 : ((k : Int) % 4 * 4 + (j : Int) % 4) < 16 := by omega
              clear hx4 hy4 hTT heqs hVd
              go_wp2_with (first
                | (with_reducible refine wpList_load_img rfl 24 (.tmp 9) rfl w4.heap.size rfl 24 W H A4 n c4 _ N1.out Try.underlying24 size_image ?_)
                | (go_at_call 9; first
                    | (with_reducible refine (hA2.out w7 (E7.out.image (by simp))).mono ?_; rintro e w8 ⟨rfl, hb⟩; have E8 := Lib.hid (E7.out.later hb); have Z8 := Lib.hid (Row.zero4 w8 28); clear hb)
                    | (with_reducible refine (hA1.out wr (hE.out.image (by simp))).mono ?_; rintro e w6 ⟨rfl, hb⟩; have E6 := Lib.hid (hE.out.later hb); have Z6 := Lib.hid (Row.zero4 w6 28); clear hb))
                | (with_reducible refine wpList_store_ints rfl 28 (.tmp 13) (.tmp 67) rfl rfl w6.heap.size rfl T1 rfl 28 [0, 0, 0, 0] Z6.out LS1.out L1.out ?_; intro w7 hr7; have E7 := Lib.hid (E6.out.ints hr7); clear hr7; have i70 := (E7.out.row (g := w.heap.size) (t := 24) (vs := imL W H A n c) (by simp)).cell 0 _ rfl; have i71 := (E7.out.row (g := w.heap.size) (t := 24) (vs := imL W H A n c) (by simp)).cell 1 _ rfl; have i72 := (E7.out.row (g := w.heap.size) (t := 24) (vs := imL W H A n c) (by simp)).cell 2 _ rfl)
                | (with_reducible refine wpList_store_ints rfl 28 (.tmp 15) (.tmp 74) rfl rfl w8.heap.size rfl T2 rfl 28 [0, 0, 0, 0] Z8.out LS2.out L2.out ?_; intro w9 hr9; have E9 := Lib.hid (E8.out.ints hr9); have B9 := Lib.hid (hr9.below _ _ (Nat.le_refl _) (Below.box w8 _)); have R9 := Lib.hid hr9.row; clear hr9; have p90 := (E9.out.row (g := w.heap.size + 1) (t := 26) (vs := [Value.int .i64 x, .int .i64 y]) (by simp)).cell 0 _ rfl; have p91 := (E9.out.row (g := w.heap.size + 1) (t := 26) (vs := [Value.int .i64 x, .int .i64 y]) (by simp)).cell 1 _ rfl; have T9 := Lib.hid (E9.out.row (g := w.heap.size + 2) (t := 40) (vs := i64s t) (by simp)); have U9 := Lib.hid (E9.out.row (g := w6.heap.size) (t := 28) (vs := i64s T1) (by simp)))
                | (with_reducible refine wpList_load_part rfl 28 (.tmp 94) rfl (w.heap.size + 2) ((k % 4 * 4 + j % 4) * 4) rfl 40 t 4 4 3 T9.out L64.out Try.underlying28 size_texel ?_; rw [← HVd.out])
                | (with_reducible refine wpList_store_ints rfl 28 (.tmp 15) (.tmp 95) rfl rfl w8.heap.size rfl V rfl 28 T2 R9.out LSV.out LVT.out ?_; intro w10 hr10; have B10 := Lib.hid (hr10.below _ _ (Nat.le_refl _) B9.out); have R10 := Lib.hid hr10.row; clear hr10))
              clear p90 p91 i70 i71 i72 ib0 ib1 ib2
              go_loopw [17] (fun i wq => ∃ d : Nat, d ≤ 4 ∧ i = .int .i64 d ∧ Hid (Row wq w8.heap.size 28 (i64s (clK V d)) ∧ Below w8.heap.size w8 wq)) (fun i _ => 4 - (intOf i).toNat)
              case atStart => exact ⟨0, by omega, rfl, R10.out, B10.out⟩
              case round =>
                obtain ⟨d, hd, rfl, hI⟩ := hrel
                clear R10 B10 R9 B9
                by_cases hd4 : d < 4
                · have cc := hI.out.1.int d (by rw [clK_length, LVV.out]; exact hd4)
                  rw [clK_getD V d d (Nat.le_refl _)] at cc
                  have cf := hI.out.1.frozen d
                  have hs := Lib.hid (show clK V (d + 1) = (clK V d).set d ((cl (V.getD d 0) : Nat) : Int) from rfl)
                  generalize V.getD d 0 = z at *
                  go_wp2
                  rw [cl_if]
                  go_roundw
                  case rel => exact ⟨d + 1, by omega, by go_num, by rw [hs.out, ← i64s_set]; exact hI.out.1.set_ d _, hI.out.2.setCell (show w8.heap.size ≤ (⟨w8.heap.size, d, none⟩ : Addr).block from Nat.le_refl _) _⟩
                  case measure => simp [intOf]; omega
                · obtain rfl : d = 4 := by omega
                  have E12 := Lib.hid (E8.out.later hI.out.2)
                  have U12 := Lib.hid (E12.out.row (g := w6.heap.size) (t := 28) (vs := i64s T1) (by simp))
                  have R12 := Lib.hid hI.out.1
                  have LSC := Lib.hid (show (Try.prog.info? 28).map (·.size) = some (clK V 4).length from by rw [clK_length, LVV.out]; exact size_texel)
                  go_wp2_with (first
                    | (with_reducible refine wpList_load_ints rfl 28 (.tmp 13) rfl w6.heap.size rfl 28 T1 4 3 U12.out Try.underlying28 LS1.out ?_)
                    | (with_reducible refine wpList_load_ints rfl 28 (.tmp 15) rfl w8.heap.size rfl 28 (clK V 4) 4 3 R12.out Try.underlying28 LSC.out ?_))
                  go_roundw
                  case rel => exact ⟨j + 1, by omega, by go_num, E12.out.part _ _ (by simp) (by simp)⟩
                  case measure => simp [intOf]; omega
            · have hb1 : ((j : Int) / 4 == x) = true := by simp [hx4]
              have hb2 : ((k : Int) / 4 == y) = false := by simp [hy4]
              have heq := heqs.out T1 T2 L1.out L2.out (by rw [hTT.out, if_neg (fun h => hy4 h.2)])
              clear hx4 hy4 hTT heqs
              go_wp2_with (first
                | (with_reducible refine wpList_load_img rfl 24 (.tmp 9) rfl w4.heap.size rfl 24 W H A4 n c4 _ N1.out Try.underlying24 size_image ?_)
                | (go_at_call 9; first
                    | (with_reducible refine (hA2.out w7 (E7.out.image (by simp))).mono ?_; rintro e w8 ⟨rfl, hb⟩; have E8 := Lib.hid (E7.out.later hb); have Z8 := Lib.hid (Row.zero4 w8 28); clear hb)
                    | (with_reducible refine (hA1.out wr (hE.out.image (by simp))).mono ?_; rintro e w6 ⟨rfl, hb⟩; have E6 := Lib.hid (hE.out.later hb); have Z6 := Lib.hid (Row.zero4 w6 28); clear hb))
                | (with_reducible refine wpList_store_ints rfl 28 (.tmp 13) (.tmp 67) rfl rfl w6.heap.size rfl T1 rfl 28 [0, 0, 0, 0] Z6.out LS1.out L1.out ?_; intro w7 hr7; have E7 := Lib.hid (E6.out.ints hr7); clear hr7; have i70 := (E7.out.row (g := w.heap.size) (t := 24) (vs := imL W H A n c) (by simp)).cell 0 _ rfl; have i71 := (E7.out.row (g := w.heap.size) (t := 24) (vs := imL W H A n c) (by simp)).cell 1 _ rfl; have i72 := (E7.out.row (g := w.heap.size) (t := 24) (vs := imL W H A n c) (by simp)).cell 2 _ rfl)
                | (with_reducible refine wpList_store_ints rfl 28 (.tmp 15) (.tmp 74) rfl rfl w8.heap.size rfl T2 rfl 28 [0, 0, 0, 0] Z8.out LS2.out L2.out ?_; intro w9 hr9; have E9 := Lib.hid (E8.out.ints hr9); have B9 := Lib.hid (hr9.below _ _ (Nat.le_refl _) (Below.box w8 _)); have R9 := Lib.hid hr9.row; clear hr9; have p90 := (E9.out.row (g := w.heap.size + 1) (t := 26) (vs := [Value.int .i64 x, .int .i64 y]) (by simp)).cell 0 _ rfl; have p91 := (E9.out.row (g := w.heap.size + 1) (t := 26) (vs := [Value.int .i64 x, .int .i64 y]) (by simp)).cell 1 _ rfl; have T9 := Lib.hid (E9.out.row (g := w.heap.size + 2) (t := 40) (vs := i64s t) (by simp)); have U9 := Lib.hid (E9.out.row (g := w6.heap.size) (t := 28) (vs := i64s T1) (by simp)))
                | (with_reducible refine wpList_load_ints rfl 28 (.tmp 13) rfl w6.heap.size rfl 28 T1 4 3 U9.out Try.underlying28 LS1.out ?_)
                | (with_reducible refine wpList_load_ints rfl 28 (.tmp 15) rfl w8.heap.size rfl 28 T2 4 3 R9.out Try.underlying28 LS2.out ?_))
              go_roundw
              case rel => exact ⟨j + 1, by omega, by go_num, E9.out.part _ _ (by simp) (by simp)⟩
              case measure => simp [intOf]; omega
          · have hb1 : ((j : Int) / 4 == x) = false := by simp [hx4]
            have heq := heqs.out T1 T2 L1.out L2.out (by rw [hTT.out, if_neg (fun h => hx4 h.1)])
            clear hx4 hTT heqs
            go_wp2_with (first
              | (with_reducible refine wpList_load_img rfl 24 (.tmp 9) rfl w4.heap.size rfl 24 W H A4 n c4 _ N1.out Try.underlying24 size_image ?_)
              | (go_at_call 9; first
                  | (with_reducible refine (hA2.out w7 (E7.out.image (by simp))).mono ?_; rintro e w8 ⟨rfl, hb⟩; have E8 := Lib.hid (E7.out.later hb); have Z8 := Lib.hid (Row.zero4 w8 28); clear hb)
                  | (with_reducible refine (hA1.out wr (hE.out.image (by simp))).mono ?_; rintro e w6 ⟨rfl, hb⟩; have E6 := Lib.hid (hE.out.later hb); have Z6 := Lib.hid (Row.zero4 w6 28); clear hb))
              | (with_reducible refine wpList_store_ints rfl 28 (.tmp 13) (.tmp 67) rfl rfl w6.heap.size rfl T1 rfl 28 [0, 0, 0, 0] Z6.out LS1.out L1.out ?_; intro w7 hr7; have E7 := Lib.hid (E6.out.ints hr7); clear hr7; have i70 := (E7.out.row (g := w.heap.size) (t := 24) (vs := imL W H A n c) (by simp)).cell 0 _ rfl; have i71 := (E7.out.row (g := w.heap.size) (t := 24) (vs := imL W H A n c) (by simp)).cell 1 _ rfl; have i72 := (E7.out.row (g := w.heap.size) (t := 24) (vs := imL W H A n c) (by simp)).cell 2 _ rfl)
              | (with_reducible refine wpList_store_ints rfl 28 (.tmp 15) (.tmp 74) rfl rfl w8.heap.size rfl T2 rfl 28 [0, 0, 0, 0] Z8.out LS2.out L2.out ?_; intro w9 hr9; have E9 := Lib.hid (E8.out.ints hr9); have B9 := Lib.hid (hr9.below _ _ (Nat.le_refl _) (Below.box w8 _)); have R9 := Lib.hid hr9.row; clear hr9; have p90 := (E9.out.row (g := w.heap.size + 1) (t := 26) (vs := [Value.int .i64 x, .int .i64 y]) (by simp)).cell 0 _ rfl; have p91 := (E9.out.row (g := w.heap.size + 1) (t := 26) (vs := [Value.int .i64 x, .int .i64 y]) (by simp)).cell 1 _ rfl; have T9 := Lib.hid (E9.out.row (g := w.heap.size + 2) (t := 40) (vs := i64s t) (by simp)); have U9 := Lib.hid (E9.out.row (g := w6.heap.size) (t := 28) (vs := i64s T1) (by simp)))
              | (with_reducible refine wpList_load_ints rfl 28 (.tmp 13) rfl w6.heap.size rfl 28 T1 4 3 U9.out Try.underlying28 LS1.out ?_)
              | (with_reducible refine wpList_load_ints rfl 28 (.tmp 15) rfl w8.heap.size rfl 28 T2 4 3 R9.out Try.underlying28 LS2.out ?_))
            go_roundw
            case rel => exact ⟨j + 1, by omega, by go_num, E9.out.part _ _ (by simp) (by simp)⟩
            case measure => simp [intOf]; omega
        · go_wp2
          go_roundw
          case rel => exact ⟨k + 1, by omega, by go_num, hE⟩
          case measure => simp [intOf]; omega
    · have hG := Lib.hid (fun (u : World) (h : Img u (img W H A4 n c4) W H ys) => gather_any _ W H ys x y u h (by omega) (by omega))
      rw [HY.out, show noE (hasP W H n x y) = 0 from if_pos HP.out, show gatV W H ys x y = gatK W H ys x y 16 from by unfold gatV; rw [HY.out]; exact if_pos HP.out] at hG
      have hins : insP (mn (4 * x + 3) (W - 1)) (mn (4 * y + 3) (H - 1)) W H := mn_ins HR.out (by omega) (by omega)
      have hA1 := Lib.hid (fun (u : World) (h : Img u (img W H A4 n c4) W H ys) => hAt1.out u (mn (4 * x + 3) (W - 1)) (mn (4 * y + 3) (H - 1)) h)
      rw [hV.out ys _ _ HY.out hins] at hA1
      have hTX := Lib.hid (show tx (gatK W H ys x y 16) 15 = tex ys (plc W (mn (4 * x + 3) (W - 1)) (mn (4 * y + 3) (H - 1))) from by
        have h := gatK_tx W H ys x y 16 (by omega) 15 (by omega)
        rwa [show x * 4 + ((15 : Nat) : Int) % 4 = 4 * x + 3 from by omega, show y * 4 + ((15 : Nat) : Int) / 4 = 4 * y + 3 from by omega] at h)
      obtain ⟨G, hGd⟩ : ∃ G, G = gatK W H ys x y 16 := ⟨_, rfl⟩
      obtain ⟨TA, hTA⟩ : ∃ TA, TA = tex ys (plc W (mn (4 * x + 3) (W - 1)) (mn (4 * y + 3) (H - 1))) := ⟨_, rfl⟩
      have LG := Lib.hid (show G.length = z64.length from by rw [hGd, gatK_length, z64_length])
      have LGS := Lib.hid (show (Try.prog.info? 40).map (·.size) = some G.length from by rw [hGd, gatK_length]; exact size_tile)
      have LA := Lib.hid (show TA.length = ([0, 0, 0, 0] : List Int).length from by rw [hTA]; exact tex_length _ _)
      have LAS := Lib.hid (show (Try.prog.info? 28).map (·.size) = some TA.length from by rw [LA.out]; exact size_texel)
      have L64 := Lib.hid (show 60 + 4 ≤ G.length from by rw [hGd, gatK_length]; omega)
      rw [← hGd] at hG hTX
      rw [← hTA] at hA1 hTX
      have heq : ∀ u, (Op.equalIn 10000 28 (arr ((G.drop 60).take 4)) (arr TA)).run Try.prog u = .ok true u := fun u => by
        have e : (G.drop 60).take 4 = TA := hTX.out
        rw [e, eq_texel TA TA LA.out LA.out u]
        simp
      have hz := Lib.hid (fun w => Row.zero64 w 40)
      clear hGd hTA hTX hins
      generalize noE (atP W H ys (mn (4 * x + 3) (W - 1)) (mn (4 * y + 3) (H - 1))) = e1 at *
      have ic0 := (hE.out.row (g := w.heap.size) (t := 24) (vs := imL W H A n c) (by simp)).cell 0 _ rfl
      have ic1 := (hE.out.row (g := w.heap.size) (t := 24) (vs := imL W H A n c) (by simp)).cell 1 _ rfl
      have ic2 := (hE.out.row (g := w.heap.size) (t := 24) (vs := imL W H A n c) (by simp)).cell 2 _ rfl
      have pc0 := (hE.out.row (g := w.heap.size + 1) (t := 26) (vs := [Value.int .i64 x, .int .i64 y]) (by simp)).cell 0 _ rfl
      have pc1 := (hE.out.row (g := w.heap.size + 1) (t := 26) (vs := [Value.int .i64 x, .int .i64 y]) (by simp)).cell 1 _ rfl
      have N1 := Lib.hid (hE.out.row (g := w4.heap.size) (t := 24) (vs := imL W H A4 n c4) (by simp))
      have hmx := mn_cases (4 * x + 3) (W - 1)
      have hmy := mn_cases (4 * y + 3) (H - 1)
      generalize mn (4 * x + 3) (W - 1) = mx at *
      generalize mn (4 * y + 3) (H - 1) = my at *
      have hlt' : H ≤ (k : Int) := by omega
      clear hlt HTex hAt1 hAt2 hV
      rcases hmx with ⟨hx1, rfl⟩ | ⟨hx1, rfl⟩ <;> rcases hmy with ⟨hy1, rfl⟩ | ⟨hy1, rfl⟩ <;>
      · go_wp2_with (first
          | (with_reducible refine wpList_load_img rfl 24 (.tmp 9) rfl w4.heap.size rfl 24 W H A4 n c4 _ N1.out Try.underlying24 size_image ?_)
          | (go_at_call 18; refine (hG.out wr (hE.out.image (by simp))).mono ?_; rintro e w6 ⟨rfl, hb⟩; have E6 := Lib.hid (hE.out.later hb); have Z6 := Lib.hid (hz.out w6); clear hb N1)
          | (with_reducible refine wpList_store_ints rfl 40 (.tmp 18) (.tmp 117) rfl rfl w6.heap.size rfl G rfl 40 z64 Z6.out LGS.out LG.out ?_; intro w7 hr7; have E7 := Lib.hid (E6.out.ints hr7); clear hr7; have i70 := (E7.out.row (g := w.heap.size) (t := 24) (vs := imL W H A n c) (by simp)).cell 0 _ rfl; have i71 := (E7.out.row (g := w.heap.size) (t := 24) (vs := imL W H A n c) (by simp)).cell 1 _ rfl; have i72 := (E7.out.row (g := w.heap.size) (t := 24) (vs := imL W H A n c) (by simp)).cell 2 _ rfl; have p70 := (E7.out.row (g := w.heap.size + 1) (t := 26) (vs := [Value.int .i64 x, .int .i64 y]) (by simp)).cell 0 _ rfl; have p71 := (E7.out.row (g := w.heap.size + 1) (t := 26) (vs := [Value.int .i64 x, .int .i64 y]) (by simp)).cell 1 _ rfl; have N7 := Lib.hid (E7.out.row (g := w4.heap.size) (t := 24) (vs := imL W H A4 n c4) (by simp)))
          | (with_reducible refine wpList_load_img rfl 24 (.tmp 9) rfl w4.heap.size rfl 24 W H A4 n c4 _ N7.out Try.underlying24 size_image ?_)
          | (go_at_call 9; refine (hA1.out w7 (E7.out.image (by simp))).mono ?_; rintro e w8 ⟨rfl, hb⟩; have E8 := Lib.hid (E7.out.later hb); have Z8 := Lib.hid (Row.zero4 w8 28); clear hb)
          | (with_reducible refine wpList_store_ints rfl 28 (.tmp 20) (.tmp 138) rfl rfl w8.heap.size rfl TA rfl 28 [0, 0, 0, 0] Z8.out LAS.out LA.out ?_; intro w9 hr9; have E9 := Lib.hid (E8.out.ints hr9); clear hr9; have G9 := Lib.hid (E9.out.row (g := w6.heap.size) (t := 40) (vs := i64s G) (by simp)); have A9 := Lib.hid (E9.out.row (g := w8.heap.size) (t := 28) (vs := i64s TA) (by simp)))
          | (with_reducible refine wpList_load_part_if rfl 28 (.tmp 146) rfl w6.heap.size 60 rfl 40 G 4 4 3 G9.out L64.out Try.underlying28 size_texel ?_)
          | (with_reducible refine wpList_load_ints_if rfl 28 (.tmp 20) rfl w8.heap.size rfl 28 TA 4 3 A9.out Try.underlying28 LAS.out ?_))
        go_ret
        exact ⟨rfl, E9.out.bel⟩

theorem walk (W H : Int) (A : Option Addr) (n c : Nat) (xs : List Nat) (x y : Int) (t : List Int) (w : World) (hB : Bs w w.heap.size A n xs) (hn : n ≤ 9223372036854775807) (ht : t.length = 16 * (4 * 1)) :
    Calls Try.prog 6 #[img W H A n c, .agg #[.int .i64 x, .int .i64 y], arr t] w fun e w' => e = .returned (.bool true) ∧ Below w.heap.size w w' := by
  by_cases h1 : lightB W H n = true
  · by_cases h2 : rightP W H n
    · by_cases h3 : hasP W H n x y
      · exact lit W H A n c xs x y t w hB h1 h2 h3 ht
      · exact lacks W H A n c xs x y t w hB h1 h2 h3 ht
    · exact dark W H A n c x y t w hn (.inr ⟨h1, h2⟩)
  · exact dark W H A n c x y t w hn (.inl (by simpa using h1))

theorem own : ownKnob Try.prog.godebug = none := by kernel_rfl
theorem laidOut : laidOutB Try.prog = true := by kernel_rfl

set_option maxRecDepth 100000 in
theorem lifted (os : Os) (started : os.Started) (H : Type) (enc : TypeId × Value → H) :
    ReturnsInHanded {} Try.checked os 6 .any (Rows.imageLaysSpec.pre6 enc Try.prog Try.f6 Rows.imageLaysRow.domain false) (Rows.imageLaysSpec.post enc Try.prog Try.f6 false true false false) := by
  refine returnsInHanded_of_change (C := Try.checked) own started (by kernel_rfl) Try.func6
    (ChangeSpec.witness6 (enc := enc) (C := Try.checked) false ⟨#[], #[.agg #[.int .i64 0, .int .i64 0, .slice none 0 0], .agg #[.int .i64 0, .int .i64 0], .agg #[.int .i64 0, .int .i64 0, .int .i64 0, .int .i64 0, .int .i64 0, .int .i64 0, .int .i64 0, .int .i64 0, .int .i64 0, .int .i64 0, .int .i64 0, .int .i64 0, .int .i64 0, .int .i64 0, .int .i64 0, .int .i64 0, .int .i64 0, .int .i64 0, .int .i64 0, .int .i64 0, .int .i64 0, .int .i64 0, .int .i64 0, .int .i64 0, .int .i64 0, .int .i64 0, .int .i64 0, .int .i64 0, .int .i64 0, .int .i64 0, .int .i64 0, .int .i64 0, .int .i64 0, .int .i64 0, .int .i64 0, .int .i64 0, .int .i64 0, .int .i64 0, .int .i64 0, .int .i64 0, .int .i64 0, .int .i64 0, .int .i64 0, .int .i64 0, .int .i64 0, .int .i64 0, .int .i64 0, .int .i64 0, .int .i64 0, .int .i64 0, .int .i64 0, .int .i64 0, .int .i64 0, .int .i64 0, .int .i64 0, .int .i64 0, .int .i64 0, .int .i64 0, .int .i64 0, .int .i64 0, .int .i64 0, .int .i64 0, .int .i64 0, .int .i64 0]], []⟩ 8 (by kernel_rfl) (by kernel_rfl) (by kernel_rfl) (by kernel_rfl)) ?_
  intro W base args ds gs before hval0 hW hcnd _
  have hval : ∀ (j : Nat) t v, Try.f6.params[j]? = some t → args[j]? = some v → Value.okWide Try.prog W .any base t v := hval0
  have hW' := hW
  obtain ⟨p, q, hA0, hV, rfl, hfz, hnd⟩ := hW
  have hA : DataW.TrodAll enc Try.prog W 0 (fun _ => true) true Try.f6.params.toList args.toList ds p := hA0
  rw [Try.params6] at hA hval
  obtain ⟨v0, vs0, d0, ds0, p0, q0, hargs, rfl, rfl, h0, r0⟩ := trodAll_cons hA
  obtain ⟨v1, vs1, d1, ds1, p1, q1, rfl, rfl, rfl, h1, r1⟩ := trodAll_cons r0
  obtain ⟨v2, vs2, d2, ds2, p2, q2, rfl, rfl, rfl, h2, r2⟩ := trodAll_cons r1
  obtain ⟨rfl, rfl, rfl⟩ := trodAll_nil r2
  obtain rfl : args = #[v0, v1, v2] := by cases args; simp_all
  have lt0 : ∀ x ∈ p0, x.block < W.heap.size := by obtain ⟨m, hm⟩ := h0; exact DataW.trod_lt m _ _ _ hm
  have lt1 : ∀ x ∈ p1, x.block < W.heap.size := by obtain ⟨m, hm⟩ := h1; exact DataW.trod_lt m _ _ _ hm
  have lt2 : ∀ x ∈ p2, x.block < W.heap.size := by obtain ⟨m, hm⟩ := h2; exact DataW.trod_lt m _ _ _ hm
  obtain ⟨rfl, rfl⟩ := trodVars_none hV
  obtain ⟨W0, H0, A0, n0, c0, xs0, rfl, hB0, hn0, bW0, bH0⟩ := open_img Try.underlying24 (by kernel_rfl) rfl rfl rfl Try.underlying3 Try.underlying22 Try.underlying5 (by kernel_rfl) (by kernel_rfl) (hval 0 24 v0 rfl rfl) h0
  obtain ⟨x10, x11, rfl, b10, b11⟩ := open_arr2 Try.underlying26 Try.underlying3 (by kernel_rfl) (by kernel_rfl) (hval 1 26 v1 rfl rfl) h1
  obtain ⟨zs2, rfl, hl2, hz2⟩ := open_flat Try.underlying40 (Flat.array (n := 16) (m := 4) Try.underlying40 (by kernel_rfl) (by omega) (Flat.array (n := 4) (m := 1) Try.underlying28 (by kernel_rfl) (by omega) (Flat.int Try.underlying3 (by kernel_rfl)))) (hval 2 40 v2 rfl rfl) h2
  clear hA0 hval0
  refine (walk W0 H0 A0 n0 c0 xs0 x10 x11 zs2 W hB0 hn0 hl2).mono fun e W' ⟨he, bel⟩ => ?_
  subst he
  exact ⟨_, rfl, _, _, _, [], _, [], hW', trodAll_mk1 (shut_bool Try.underlying4 _), (trodAll_cons_mk (Below.trod laidOut (by kernel_rfl) (of_decide_eq_true (by kernel_rfl)) h0 bel lt0) (trodAll_cons_mk (Below.trod laidOut (by kernel_rfl) (of_decide_eq_true (by kernel_rfl)) h1 bel lt1) (trodAll_cons_mk (Below.trod laidOut (by kernel_rfl) (of_decide_eq_true (by kernel_rfl)) h2 bel lt2) trodAll_mk0))), rfl, bel.frame _, fun h => by cases h⟩

theorem over : Rows.imageLaysRow.holds Try.pinned (OpenSpec.ofChange Rows.imageLaysSpec) :=
  OpenClaim.holds_of_wide 6 Try.f6 rfl rfl rfl rfl rfl rfl rfl ⟨rfl, rfl, rfl, rfl, rfl⟩ rfl rfl rfl rfl rfl (by kernel_rfl) Try.func6 (by kernel_rfl)
    (of_decide_eq_true (by kernel_rfl)) (by unfold Func.isWrapper; first | (rw [if_pos (by decide +kernel)]; kernel_rfl) | (rw [if_neg (by decide +kernel)]; exact ⟨rfl, rfl⟩))
    (fun os started H enc _ => lifted os started H enc)
end Go.Proofs.Ytnlaelbceloliaa.imageLays

namespace Go.Proofs.Ytnlaelbceloliaa
theorem imageLays_holds : Rows.ImageLaysSaid := imageLays.over
#print axioms imageLays_holds
end Go.Proofs.Ytnlaelbceloliaa
