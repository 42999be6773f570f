/- ETC2 blocks, the document's: Decode. -/
import Derived.Test.YtgcijioiicmjiaaDoorE2Rpt
import Derived.Test.YtgcijioiicmjiaaDoorE2Rfo
import Derived.Test.YtgcijioiicmjiaaDoorE2Rpl
import Derived.Test.YtgcijioiicmjiaaDoorE2Tex
set_option linter.all false
namespace Go.Proofs.YtgcijioiicmjiaaDoor
open Go.RowKit
open Bi Lv Eo Et

namespace Et
theorem fl_at2 (z : List Int) (hz : z.length = 64) (f : Nat → List Int) (hf : ∀ i, i < 16 → (f i).length = 4) : ∀ k, k ≤ 16 → ∀ q, q < 64 → (fl z f k).getD q 0 = if q / 4 < k then (f (q / 4)).getD (q % 4) 0 else z.getD q 0 := by
  intro k
  induction k with
  | zero => intro _ q _; simp [fl]
  | succ k ih =>
    intro hk q hq
    have hfk := hf k (by omega)
    rw [fl, spl_getD _ _ _ _ (by rw [hfk, fl_length, hz]; omega), hfk, ih (by omega) q hq]
    by_cases h1 : k * 4 ≤ q ∧ q < k * 4 + 4
    · rw [if_pos h1, if_pos (by omega), show q / 4 = k by omega, show q - k * 4 = q % 4 by omega]
    · rw [if_neg h1]
      by_cases h2 : q / 4 < k
      · rw [if_pos h2, if_pos (by omega)]
      · rw [if_neg h2, if_neg (by omega)]
theorem fl_zero (z : List Int) (f : Nat → List Int) : fl z f 0 = z := rfl
theorem fl_succ (z : List Int) (f : Nat → List Int) (k : Nat) : fl z f (k + 1) = spl (fl z f k) (k * 4) (f k) := rfl
/-- The rows laid over whatever texels. -/
theorem fl_base (z z' : List Int) (hz : z.length = 64) (hz' : z'.length = 64) (f : Nat → List Int) (hf : ∀ i, i < 16 → (f i).length = 4) : fl z f 16 = fl z' f 16 := by
  refine getD_ext (by rw [fl_length, fl_length, hz, hz']) fun q hq => ?_
  rw [fl_length, hz] at hq
  rw [fl_at2 z hz f hf 16 (by omega) q hq, fl_at2 z' hz' f hf 16 (by omega) q hq, if_pos (by omega), if_pos (by omega)]
/-- A row that is as it was. -/
theorem fl_keep (z : List Int) (hz : z.length = 64) (f : Nat → List Int) (hf : ∀ i, i < 16 → (f i).length = 4) (i : Nat) (hi : i < 16) (h : f i = (z.drop (i * 4)).take 4) : fl z f (i + 1) = fl z f i := by
  refine getD_ext (by rw [fl_length, fl_length]) fun q hq => ?_
  rw [fl_length, hz] at hq
  rw [fl_at2 z hz f hf (i + 1) (by omega) q hq, fl_at2 z hz f hf i (by omega) q hq]
  by_cases h1 : q / 4 < i
  · rw [if_pos h1, if_pos (by omega)]
  · rw [if_neg h1]
    by_cases h2 : q / 4 < i + 1
    · rw [if_pos h2, show q / 4 = i by omega, h, List.getD_eq_getElem?_getD, List.getElem?_take, if_pos (by omega), List.getElem?_drop, ← List.getD_eq_getElem?_getD, show i * 4 + q % 4 = q by omega]
    · rw [if_neg h2]
theorem spl_twice (O r s : List Int) (o : Nat) (hr : r.length = 4) (hs : s.length = 4) (ho : o + 4 ≤ O.length) : spl (spl O o r) o s = spl O o s := by
  refine getD_ext (by rw [spl_length, spl_length, spl_length]) fun q hq => ?_
  have h1 := spl_getD s (spl O o r) o q (by rw [spl_length, hs]; exact ho)
  have h2 := spl_getD s O o q (by rw [hs]; exact ho)
  have h3 := spl_getD r O o q (by rw [hr]; exact ho)
  rw [h1, h2, h3, hr, hs]
  by_cases h : o ≤ q ∧ q < o + 4
  · rw [if_pos h, if_pos h]
  · rw [if_neg h, if_neg h, if_neg h]
/-- The document's four of a kind, and a texel of T or H. -/
theorem dtV_clear (p : Bool) (xs : List Nat) (i : Nat) (ho : opq p xs = false) (hw : (pZ (pxs p xs)).getD (8 + i) 0 = 2) : dtV p xs i = [0, 0, 0, 0] := by unfold dtV; rw [if_pos ⟨ho, hw⟩]
theorem dtV_four (p : Bool) (xs : List Nat) (i : Nat) (hk : kdN p xs = 1 ∨ kdN p xs = 2) (hn : ¬ (opq p xs = false ∧ (pZ (pxs p xs)).getD (8 + i) 0 = 2)) : dtV p xs i = ((frV (kdN p xs) xs).drop (((pZ (pxs p xs)).getD (8 + i) 0).toNat * 4)).take 4 := by unfold dtV; rw [if_neg hn, if_pos hk]
theorem dtV_base (p : Bool) (xs : List Nat) (i : Nat) (hk : kdN p xs = 0) (ho : opq p xs = false) (hw : (pZ (pxs p xs)).getD (8 + i) 0 = 0) : dtV p xs i = bRow (pD (pxs p xs)) (pZ (pxs p xs)) (halfN (pF (pxs p xs)) i) := by unfold dtV; rw [if_neg (by rw [hw]; omega), if_neg (by omega), if_pos ⟨ho, hw⟩]
theorem dtV_keep (p : Bool) (xs : List Nat) (i : Nat) (hk : kdN p xs = 0) (hn : ¬ (opq p xs = false ∧ (pZ (pxs p xs)).getD (8 + i) 0 = 2)) (hn' : ¬ (opq p xs = false ∧ (pZ (pxs p xs)).getD (8 + i) 0 = 0)) : dtV p xs i = txV (pD (pxs p xs)) (pF (pxs p xs)) (pZ (pxs p xs)) i := by unfold dtV; rw [if_neg hn, if_neg (by omega), if_neg hn']
theorem z_bd (ys : List Nat) (i : Nat) (h : i < 16) : 0 ≤ (pZ ys).getD (8 + i) 0 ∧ (pZ ys).getD (8 + i) 0 < 4 := by
  have := whW_bd ys i h
  rw [whW_getD _ _ h] at this
  exact this
theorem opq_top (p : Bool) (xs : List Nat) : opq p xs = (!p || bt xs true 30) := rfl
end Et
theorem four11 (A : Option Addr) (c : Nat) (k : Nat) (hk : k = 1 ∨ k = 2) (xs : List Nat) (w : World) (h : Bs w w.heap.size A 8 xs) :
    Calls Tryd.prog 31 #[.slice A 8 c, .int .i64 (k : Int)] w fun e w' => e = .returned (arr (frV k xs)) ∧ Below w.heap.size w w' := by
  obtain rfl | rfl := hk
  · exact fourT11 A c xs w h
  · exact fourH11 A c ((2 : Nat) : Int) (by omega) xs w h
set_option maxHeartbeats 4000000 in
set_option maxRecDepth 100000 in
theorem rdecT (A : Option Addr) (c : Nat) (p : Bool) (xs : List Nat) (w : World) (h : Bs w w.heap.size A 8 xs) (hk : kdN p xs = 1) :
    Calls Tryd.prog 9 #[.slice A 8 c, .bool p] w fun e w' => e = .returned (.tuple #[arr (fl z64 (dtV p xs) 16), .int .i64 0]) ∧ Below w.heap.size w w' := by
  have E := Lib.hid ((Kn.start w).arg_bs h)
  have hxl := h.1
  have hK := Lib.hid (fun u hu => show Calls Tryd.prog 11 #[.slice A 8 c, .bool p] u (fun e w' => e = .returned (.int .i64 ((kdN p xs : Nat) : Int)) ∧ Below u.heap.size u w') from kind11 A 8 c p xs u hu (by omega))
  have hP := Lib.hid (fun u hu => parts11 A c p xs u hu)
  have hPa := Lib.hid (fun u => rpaint_any (pD (pxs p xs)) (pF (pxs p xs)) (pZ (pxs p xs)) u (pZ_length _) (ok_parts _))
  have hBa := Lib.hid (fun u => rbases_any (pD (pxs p xs)) (pF (pxs p xs)) (pZ (pxs p xs)) u (pZ_length _) (ok_parts _))
  have hT := Lib.hid (fun u hu => show Calls Tryd.prog 27 #[.slice A 8 c, .int .i64 30, .int .i64 1] u (fun e w' => e = .returned (.int .i64 (((bt xs true 30).toNat : Nat) : Int)) ∧ u = w') from by
    have k := top_any A 8 c 30 1 30 1 rfl rfl xs u.heap.size u hu (by omega) (by omega) (by omega)
    rw [G_one] at k
    exact k)
  have hz24 := Lib.hid z24_length
  have hzz := Lib.hid (show (i64s z64).length = 64 from rfl)
  have hZl := Lib.hid (pZ_length (pxs p xs))
  have hbl := Lib.hid (baV_length (pD (pxs p xs)) (pZ (pxs p xs)))
  have hpl := Lib.hid (paV_length (pD (pxs p xs)) (pF (pxs p xs)) (pZ (pxs p xs)))
  have hFl := Lib.hid (fun k => show (fl (paV (pD (pxs p xs)) (pF (pxs p xs)) (pZ (pxs p xs))) (dtV p xs) k).length = 64 from by rw [fl_length]; exact paV_length _ _ _)
  have hF0 := Lib.hid (fl_zero (paV (pD (pxs p xs)) (pF (pxs p xs)) (pZ (pxs p xs))) (dtV p xs))
  have hFs := Lib.hid (fun k => fl_succ (paV (pD (pxs p xs)) (pF (pxs p xs)) (pZ (pxs p xs))) (dtV p xs) k)
  have hFe : fl (paV (pD (pxs p xs)) (pF (pxs p xs)) (pZ (pxs p xs))) (dtV p xs) 16 = fl z64 (dtV p xs) 16 := fl_base _ _ (paV_length _ _ _) z64_length _ (fun i hi => dtV_length p xs i hi)
  have hZb := Lib.hid (fun i (hi : i < 16) => z_bd (pxs p xs) i hi)
  have hCw := Lib.hid (fun i (hi : i < 16) => blk_z (pD (pxs p xs)) (pF (pxs p xs)) (pZ (pxs p xs)) (show 10 + i = (8 + i) + 2 by omega) (by rw [pZ_length]; omega))
  have hDl := Lib.hid (fun i (hi : i < 16) => dtV_length p xs i hi)
  rw [← hFe]
  have hFo := Lib.hid (fun u hu => show Calls Tryd.prog 31 #[.slice A 8 c, .int .i64 1] u (fun e w' => e = .returned (arr (frV (kdN p xs) xs)) ∧ Below u.heap.size u w') from by rw [hk]; exact four11 A c 1 (.inl rfl) xs u hu)
  have hfl := frV_length (kdN p xs) xs
  have hDc := Lib.hid (fun i ho hw => dtV_clear p xs i ho hw)
  have hD4 := Lib.hid (fun i hn => dtV_four p xs i (.inl hk) hn)
  rw [opq_top] at hDc hD4
  clear h hFe hxl
  generalize frV (kdN p xs) xs = FR at *
  generalize kdN p xs = kd at *
  subst hk
  generalize fl (paV (pD (pxs p xs)) (pF (pxs p xs)) (pZ (pxs p xs))) (dtV p xs) = FL at *
  generalize paV (pD (pxs p xs)) (pF (pxs p xs)) (pZ (pxs p xs)) = PV at *
  generalize baV (pD (pxs p xs)) (pZ (pxs p xs)) = BA at *
  generalize dtV p xs = DT at *
  generalize pZ (pxs p xs) = Z at *
  generalize pF (pxs p xs) = f at *
  generalize pD (pxs p xs) = d at *
  cases p with
  | false =>
    go_enter Tryd.func9, Tryd.ntmps9
    go_wp2_with (first
      | (go_at_call 11; (with_reducible refine (hK.out _ ?ha).mono ?_); (case ha => exact E.out.bs (by simp)); clear hK; rintro e w2 ⟨rfl, hb⟩; have E1 := Lib.hid (E.out.later hb); clear hb E; have E := E1; clear E1)
      | (go_at_call 27; (with_reducible refine (hT.out _ ?ha).mono ?_); (case ha => exact E.out.bs (by simp)); clear hT; rintro e w2 ⟨rfl, rfl⟩)
      | (go_at_call 28; (with_reducible refine (hP.out _ ?ha).mono ?_); (case ha => exact E.out.bs (by simp)); clear hP; rintro e w2 ⟨rfl, hb⟩; have E1 := Lib.hid (E.out.later hb); clear hb E; have E := E1; clear E1)
      | (go_at_call 29; (with_reducible refine (hPa.out _).mono ?_); clear hPa; rintro e w2 ⟨rfl, hb⟩; have E1 := Lib.hid (E.out.later hb); clear hb E; have E := E1; clear E1)
      | (go_at_call 30; (with_reducible refine (hBa.out _).mono ?_); clear hBa; rintro e w2 ⟨rfl, hb⟩; have E1 := Lib.hid (E.out.later hb); clear hb E; have E := E1; clear E1)
      | ((with_reducible refine kn_bputall (g := g8) E.out rfl rfl rfl rfl rfl ?h1 ?h2 ?_); (case h1 => exact hz24.out); (case h2 => exact hZl.out); clear E; intro u E0; have E := Lib.hid E0; clear E0)
      | ((with_reducible refine kn_ball (g := g8) E.out rfl rfl rfl ?h1 ?_); (case h1 => exact hZl.out))
      | ((with_reducible refine kn_stores (g := g9) (vs := i64s PV) E.out rfl rfl rfl rfl rfl ?hl ?h1 ?_); (case hl => exact ⟨hzz.out, by rw [i64s_length]; exact hpl.out⟩); (case h1 => exact i64s_one _); clear E; intro u E0; have E := Lib.hid E0; clear E0)
      | ((with_reducible refine kn_stores (g := g10) (vs := i64s BA) E.out rfl rfl rfl rfl rfl ?hl ?h1 ?_); (case hl => exact ⟨rfl, by rw [i64s_length]; exact hbl.out⟩); (case h1 => exact i64s_one _); clear E; intro u E0; have E := Lib.hid E0; clear E0)
      | ((with_reducible refine kn_load E.out rfl rfl rfl rfl ?_)) | ((with_reducible refine kn_load_if E.out rfl rfl rfl rfl ?_)) | ((with_reducible refine kn_loads E.out rfl rfl rfl ?_ ?_); (focus (first | rfl | (simp only [i64s_length, u8s_length]; first | rfl | assumption | omega)))) | ((with_reducible refine kn_loads_if E.out rfl rfl rfl ?_ ?_); (focus (first | rfl | (simp only [i64s_length, u8s_length]; first | rfl | assumption | omega)))) | ((with_reducible refine kn_stores E.out rfl rfl rfl rfl rfl ?_ ?_ ?_); (focus (first | exact ⟨rfl, rfl⟩ | (simp only [i64s_length, u8s_length]; refine ⟨?_, ?_⟩ <;> first | rfl | assumption | omega))); (focus (first | exact i64s_one _ | exact u8s_one _ | simp [Value.oneCell'])); clear E; intro u E0; have E := Lib.hid E0; clear E0) | ((with_reducible refine kn_alloc (o := ⟨some 4, _, _, _, _, _⟩) E.out rfl rfl ?_); clear E; intro g4 u E0 hb0; have E := Lib.hid E0; clear E0 hb0) | ((with_reducible refine kn_box (o := ⟨some 4, _, _, _, _, _⟩) E.out rfl rfl rfl ?_); clear E; intro g4 u E0 hb0; have E := Lib.hid E0; clear E0 hb0) | ((with_reducible refine kn_box_int (o := ⟨some 4, _, _, _, _, _⟩) E.out rfl rfl rfl ?_); clear E; intro g4 u E0 hb0; have E := Lib.hid E0; clear E0 hb0) | ((with_reducible refine kn_box_slice (o := ⟨some 4, _, _, _, _, _⟩) E.out rfl rfl rfl ?_); clear E; intro g4 u E0 hb0; have E := Lib.hid E0; clear E0 hb0) | ((with_reducible refine kn_box_bool (o := ⟨some 4, _, _, _, _, _⟩) E.out rfl rfl rfl ?_); clear E; intro g4 u E0 hb0; have E := Lib.hid E0; clear E0 hb0) | ((with_reducible refine kn_box_func (o := ⟨some 4, _, _, _, _, _⟩) E.out rfl rfl rfl ?_); clear E; intro g4 u E0 hb0; have E := Lib.hid E0; clear E0 hb0) | ((with_reducible refine kn_alloc (o := ⟨some 8, _, _, _, _, _⟩) E.out rfl rfl ?_); clear E; intro g8 u E0 hb0; have E := Lib.hid E0; clear E0 hb0) | ((with_reducible refine kn_box (o := ⟨some 8, _, _, _, _, _⟩) E.out rfl rfl rfl ?_); clear E; intro g8 u E0 hb0; have E := Lib.hid E0; clear E0 hb0) | ((with_reducible refine kn_box_int (o := ⟨some 8, _, _, _, _, _⟩) E.out rfl rfl rfl ?_); clear E; intro g8 u E0 hb0; have E := Lib.hid E0; clear E0 hb0) | ((with_reducible refine kn_box_slice (o := ⟨some 8, _, _, _, _, _⟩) E.out rfl rfl rfl ?_); clear E; intro g8 u E0 hb0; have E := Lib.hid E0; clear E0 hb0) | ((with_reducible refine kn_box_bool (o := ⟨some 8, _, _, _, _, _⟩) E.out rfl rfl rfl ?_); clear E; intro g8 u E0 hb0; have E := Lib.hid E0; clear E0 hb0) | ((with_reducible refine kn_box_func (o := ⟨some 8, _, _, _, _, _⟩) E.out rfl rfl rfl ?_); clear E; intro g8 u E0 hb0; have E := Lib.hid E0; clear E0 hb0) | ((with_reducible refine kn_alloc (o := ⟨some 9, _, _, _, _, _⟩) E.out rfl rfl ?_); clear E; intro g9 u E0 hb0; have E := Lib.hid E0; clear E0 hb0) | ((with_reducible refine kn_box (o := ⟨some 9, _, _, _, _, _⟩) E.out rfl rfl rfl ?_); clear E; intro g9 u E0 hb0; have E := Lib.hid E0; clear E0 hb0) | ((with_reducible refine kn_box_int (o := ⟨some 9, _, _, _, _, _⟩) E.out rfl rfl rfl ?_); clear E; intro g9 u E0 hb0; have E := Lib.hid E0; clear E0 hb0) | ((with_reducible refine kn_box_slice (o := ⟨some 9, _, _, _, _, _⟩) E.out rfl rfl rfl ?_); clear E; intro g9 u E0 hb0; have E := Lib.hid E0; clear E0 hb0) | ((with_reducible refine kn_box_bool (o := ⟨some 9, _, _, _, _, _⟩) E.out rfl rfl rfl ?_); clear E; intro g9 u E0 hb0; have E := Lib.hid E0; clear E0 hb0) | ((with_reducible refine kn_box_func (o := ⟨some 9, _, _, _, _, _⟩) E.out rfl rfl rfl ?_); clear E; intro g9 u E0 hb0; have E := Lib.hid E0; clear E0 hb0) | ((with_reducible refine kn_alloc (o := ⟨some 10, _, _, _, _, _⟩) E.out rfl rfl ?_); clear E; intro g10 u E0 hb0; have E := Lib.hid E0; clear E0 hb0) | ((with_reducible refine kn_box (o := ⟨some 10, _, _, _, _, _⟩) E.out rfl rfl rfl ?_); clear E; intro g10 u E0 hb0; have E := Lib.hid E0; clear E0 hb0) | ((with_reducible refine kn_box_int (o := ⟨some 10, _, _, _, _, _⟩) E.out rfl rfl rfl ?_); clear E; intro g10 u E0 hb0; have E := Lib.hid E0; clear E0 hb0) | ((with_reducible refine kn_box_slice (o := ⟨some 10, _, _, _, _, _⟩) E.out rfl rfl rfl ?_); clear E; intro g10 u E0 hb0; have E := Lib.hid E0; clear E0 hb0) | ((with_reducible refine kn_box_bool (o := ⟨some 10, _, _, _, _, _⟩) E.out rfl rfl rfl ?_); clear E; intro g10 u E0 hb0; have E := Lib.hid E0; clear E0 hb0) | ((with_reducible refine kn_box_func (o := ⟨some 10, _, _, _, _, _⟩) E.out rfl rfl rfl ?_); clear E; intro g10 u E0 hb0; have E := Lib.hid E0; clear E0 hb0))
    go_loopw [12] (fun ck wr => ∃ i : Nat, i ≤ 16 ∧ ck = .int .i64 (i : Int) ∧ Hid (Kn w [.row g10 51 (i64s BA), .row g9 27 (i64s (FL i)), .row g8 65 (blk d f Z), .row g4 27 (i64s z64)] [bsF A 8 xs] wr)) (fun ck _ => 16 - (intOf ck).toNat)
    case atStart => exact ⟨0, by omega, rfl, by rw [hF0.out]; exact E.out.part _ _ (by repeat (first | exact List.Sublist.refl _ | apply List.Sublist.cons_cons | apply List.Sublist.cons)) (by simp)⟩
    case round =>
      clear E
      obtain ⟨i, hi, rfl, E⟩ := hrel
      have hl := hFl.out i
      by_cases hlt : i < 16
      · have hi3 : (i : Int) < 16 := by omega
        have hi8 : (8 : Int) + i < 24 := by omega
        have hzb := hZb.out i hlt
        have hcw := Lib.hid (hCw.out i hlt)
        have hdl := Lib.hid (hDl.out i hlt)
        have hfs := Lib.hid (hFs.out i)
        have hd4 := hD4.out i
        have hdc := hDc.out i
        obtain ⟨v, hv⟩ : ∃ v : Nat, Z.getD (8 + i) 0 = (v : Int) := ⟨(Z.getD (8 + i) 0).toNat, by omega⟩
        rw [hv] at hcw hzb hd4 hdc
        have hv4 : v < 4 := by omega
        have hv42 : (v : Int) < 4 := by omega
        obtain ⟨O, hO⟩ : ∃ z, FL i = z := ⟨_, rfl⟩
        rw [hO] at hfs hl E
        rw [Int.toNat_natCast] at hd4
        have hrl : ((FR.drop (v * 4)).take 4).length = 4 := by rw [List.length_take, List.length_drop]; omega
        have hix := run_index_agg (P := Tryd.prog) 69 25 4 4 Tryd.underlying69 Tryd.underlying25 rfl (by kernel_rfl) FR v hv4 hfl
        clear hZb hCw hDl hFl hF0 hFs hD4 hDc hO
        generalize DT i = dt at *
        obtain ⟨r, hr⟩ : ∃ z, (FR.drop (v * 4)).take 4 = z := ⟨_, rfl⟩
        rw [hr] at hix hrl hd4
        replace hrl := Lib.hid hrl
        go_wp2_with (first | ((with_reducible refine kn_load E.out rfl rfl rfl rfl ?_)) | ((with_reducible refine kn_load_if E.out rfl rfl rfl rfl ?_)) | ((with_reducible refine kn_loads E.out rfl rfl rfl ?_ ?_); (focus (first | rfl | (simp only [i64s_length, u8s_length]; first | rfl | assumption | omega)))) | ((with_reducible refine kn_loads_if E.out rfl rfl rfl ?_ ?_); (focus (first | rfl | (simp only [i64s_length, u8s_length]; first | rfl | assumption | omega)))) | ((with_reducible refine kn_stores E.out rfl rfl rfl rfl rfl ?_ ?_ ?_); (focus (first | exact ⟨rfl, rfl⟩ | (simp only [i64s_length, u8s_length]; refine ⟨?_, ?_⟩ <;> first | rfl | assumption | omega))); (focus (first | exact i64s_one _ | exact u8s_one _ | simp [Value.oneCell'])); clear E; intro u E0; have E := Lib.hid E0; clear E0))
        refine wp_region_held_drew (S := Kn w [.row g8 65 (blk d f Z)] [bsF A 8 xs]) (by kernel_rfl) (E.out.drew.part _ _ (by repeat (first | exact List.Sublist.refl _ | apply List.Sublist.cons_cons | apply List.Sublist.cons)) (by simp)) (fun kS => ?_)
        have E1 := Lib.hid E.out.drew
        generalize World.drew _ = u1 at kS E1 ⊢
        clear E
        have E := E1
        clear E1
        (refine takeL (i := 0) (v := _) rfl (by kernel_rfl) (by kernel_rfl) (by kernel_rfl) (fun _ _ _ h => h) (by first | exact Or.inl ⟨by rfl, (by intro u hSu; clear hSu; go_simp; try with_reducible rfl)⟩ | exact Or.inr ⟨by rfl, rfl⟩) kS ?_; (try simp only [Act.put, List.setIfInBounds_toArray, List.set_cons_zero, List.set_cons_succ])); (refine takeL (i := 1) (v := _) rfl (by kernel_rfl) (by kernel_rfl) (by kernel_rfl) (fun _ _ _ h => h) (by first | exact Or.inl ⟨by rfl, (by intro u hSu; clear hSu; go_simp; try with_reducible rfl)⟩ | exact Or.inr ⟨by rfl, rfl⟩) kS ?_; (try simp only [Act.put, List.setIfInBounds_toArray, List.set_cons_zero, List.set_cons_succ])); (refine takeL (i := 2) (v := _) rfl (by kernel_rfl) (by kernel_rfl) (by kernel_rfl) (fun _ _ _ h => h) (by first | exact Or.inl ⟨by rfl, (by intro u hSu; clear hSu; go_simp; try with_reducible rfl)⟩ | exact Or.inr ⟨by rfl, rfl⟩) kS ?_; (try simp only [Act.put, List.setIfInBounds_toArray, List.set_cons_zero, List.set_cons_succ])); (refine takeL (i := 4) (v := _) rfl (by kernel_rfl) (by kernel_rfl) (by kernel_rfl) (fun _ _ _ h => h) (by first | exact Or.inl ⟨by rfl, (by intro u hSu; clear hSu; go_simp; try with_reducible rfl)⟩ | exact Or.inr ⟨by rfl, rfl⟩) kS ?_; (try simp only [Act.put, List.setIfInBounds_toArray, List.set_cons_zero, List.set_cons_succ])); (refine takeL (i := 5) (v := _) rfl (by kernel_rfl) (by kernel_rfl) (by kernel_rfl) (fun _ _ _ h => h) (by first | exact Or.inl ⟨by rfl, (by intro u hSu; clear hSu; go_simp; try with_reducible rfl)⟩ | exact Or.inr ⟨by rfl, rfl⟩) kS ?_; (try simp only [Act.put, List.setIfInBounds_toArray, List.set_cons_zero, List.set_cons_succ])); (refine takeL (i := 6) (v := _) rfl (by kernel_rfl) (by kernel_rfl) (by kernel_rfl) (fun _ _ _ h => h) (by first | exact Or.inl ⟨by rfl, (by intro u hSu; clear hSu; go_simp; try with_reducible rfl)⟩ | exact Or.inr ⟨by rfl, rfl⟩) kS ?_; (try simp only [Act.put, List.setIfInBounds_toArray, List.set_cons_zero, List.set_cons_succ]))
        (refine takeL (i := 7) (v := _) rfl (by kernel_rfl) (by kernel_rfl) (by kernel_rfl) (fun _ _ _ h => h) (yield_load (g := g8) (i := 10 + i) rfl rfl rfl hcw.out) kS ?_; (try simp only [Act.put, List.setIfInBounds_toArray, List.set_cons_zero, List.set_cons_succ]))
        refine callL (i := 3) rfl (by kernel_rfl) (fun K hK => ?_)
        (rw [if_pos (by rfl)]; go_simp; (with_reducible refine (hFo.out _ ?ha).mono ?_); (case ha => exact E.out.bs (by simp)); rintro e' w1 ⟨rfl, hb⟩; have E1 := Lib.hid (E.out.later hb); clear hb E; have E := E1; clear E1; go_wp2_with fail; (refine hK.out _ _ (E.out.part _ _ (by repeat (first | exact List.Sublist.refl _ | apply List.Sublist.cons_cons | apply List.Sublist.cons)) (by simp)) (fun kS => ?_); clear hK K; (try simp only [Act.put, List.setIfInBounds_toArray, List.set_cons_zero, List.set_cons_succ])))
        (refine takeL (i := 8) (v := _) rfl (by kernel_rfl) (by kernel_rfl) (by kernel_rfl) (fun _ _ _ h => h) (by first | exact Or.inl ⟨by rfl, (by intro u hSu; clear hSu; go_simp; try with_reducible rfl)⟩ | exact Or.inr ⟨by rfl, rfl⟩) kS ?_; (try simp only [Act.put, List.setIfInBounds_toArray, List.set_cons_zero, List.set_cons_succ])); (refine takeL (i := 9) (v := _) rfl (by kernel_rfl) (by kernel_rfl) (by kernel_rfl) (fun _ _ _ h => h) (by first | exact Or.inl ⟨by rfl, (by intro u hSu; clear hSu; go_simp; try with_reducible rfl)⟩ | exact Or.inr ⟨by rfl, rfl⟩) kS ?_; (try simp only [Act.put, List.setIfInBounds_toArray, List.set_cons_zero, List.set_cons_succ]))
        refine callL (i := 10) rfl (by kernel_rfl) (fun K hK => ?_)
        (rw [if_pos (by rfl)]; refine wp_kn_storeq (g := g9) (ys := r) E.out rfl rfl rfl rfl hrl.out (by omega) ?_; clear E kS; intro u E0; have E := Lib.hid E0; clear E0; (refine hK.out _ _ (E.out.part _ _ (by repeat (first | exact List.Sublist.refl _ | apply List.Sublist.cons_cons | apply List.Sublist.cons)) (by simp)) (fun kS => ?_); clear hK K; (try simp only [Act.put, List.setIfInBounds_toArray, List.set_cons_zero, List.set_cons_succ])))
        refine wpAnyH_done (by kernel_rfl) ?_ _
        have hdt := Lib.hid (hd4 (by simp))
        clear hd4 hdc
        go_wp2_with (first
          | ((with_reducible refine kn_load_if (g := g8) (i := 10 + i) E.out rfl rfl rfl hcw.out ?_))
          | ((with_reducible refine kn_load E.out rfl rfl rfl rfl ?_)) | ((with_reducible refine kn_load_if E.out rfl rfl rfl rfl ?_)) | ((with_reducible refine kn_loads E.out rfl rfl rfl ?_ ?_); (focus (first | rfl | (simp only [i64s_length, u8s_length]; first | rfl | assumption | omega)))) | ((with_reducible refine kn_loads_if E.out rfl rfl rfl ?_ ?_); (focus (first | rfl | (simp only [i64s_length, u8s_length]; first | rfl | assumption | omega)))) | ((with_reducible refine kn_stores E.out rfl rfl rfl rfl rfl ?_ ?_ ?_); (focus (first | exact ⟨rfl, rfl⟩ | (simp only [i64s_length, u8s_length]; refine ⟨?_, ?_⟩ <;> first | rfl | assumption | omega))); (focus (first | exact i64s_one _ | exact u8s_one _ | simp [Value.oneCell'])); clear E; intro u E0; have E := Lib.hid E0; clear E0))
        go_roundw
        case rel => exact ⟨i + 1, by omega, by go_num, by rw [hfs.out, hdt.out]; exact E.out.part _ _ (by repeat (first | exact List.Sublist.refl _ | apply List.Sublist.cons_cons | apply List.Sublist.cons)) (fun _ h => h)⟩
        case measure => simp [intOf]; try omega
      · have hi3 : ¬ ((i : Int) < 16) := by omega
        have ei : i = 16 := by omega
        rw [ei] at E
        have hl16 := hFl.out 16
        clear hZb hCw hDl hFl hF0 hFs hlt hi ei
        go_wp2_with (first
          | ((with_reducible refine kn_loads (g := g9) E.out rfl rfl rfl ?hl ?_); (case hl => rw [i64s_length]; exact hl16))
          | ((with_reducible refine kn_stores (g := g4) (vs := i64s (FL 16)) E.out rfl rfl rfl rfl rfl ?hl ?h1 ?_); (case hl => exact ⟨hzz.out, by rw [i64s_length]; exact hl16⟩); (case h1 => exact i64s_one _); clear E; intro u E0; have E := Lib.hid E0; clear E0)
          | ((with_reducible refine kn_load E.out rfl rfl rfl rfl ?_)) | ((with_reducible refine kn_load_if E.out rfl rfl rfl rfl ?_)) | ((with_reducible refine kn_loads E.out rfl rfl rfl ?_ ?_); (focus (first | rfl | (simp only [i64s_length, u8s_length]; first | rfl | assumption | omega)))) | ((with_reducible refine kn_loads_if E.out rfl rfl rfl ?_ ?_); (focus (first | rfl | (simp only [i64s_length, u8s_length]; first | rfl | assumption | omega)))) | ((with_reducible refine kn_stores E.out rfl rfl rfl rfl rfl ?_ ?_ ?_); (focus (first | exact ⟨rfl, rfl⟩ | (simp only [i64s_length, u8s_length]; refine ⟨?_, ?_⟩ <;> first | rfl | assumption | omega))); (focus (first | exact i64s_one _ | exact u8s_one _ | simp [Value.oneCell'])); clear E; intro u E0; have E := Lib.hid E0; clear E0))
        refine bodyPost_ret (results_kn2 E.out rfl _ rfl (by rw [i64s_length]; exact hl16)) rfl ?_
        exact ⟨rfl, E.out.bel⟩
  | true =>
    cases hbt : bt xs true 30 with
    | true =>
      rw [hbt] at hT
      rw [hbt] at hDc hD4
      go_enter Tryd.func9, Tryd.ntmps9
      go_wp2_with (first
        | (go_at_call 11; (with_reducible refine (hK.out _ ?ha).mono ?_); (case ha => exact E.out.bs (by simp)); clear hK; rintro e w2 ⟨rfl, hb⟩; have E1 := Lib.hid (E.out.later hb); clear hb E; have E := E1; clear E1)
        | (go_at_call 27; (with_reducible refine (hT.out _ ?ha).mono ?_); (case ha => exact E.out.bs (by simp)); clear hT; rintro e w2 ⟨rfl, rfl⟩)
        | (go_at_call 28; (with_reducible refine (hP.out _ ?ha).mono ?_); (case ha => exact E.out.bs (by simp)); clear hP; rintro e w2 ⟨rfl, hb⟩; have E1 := Lib.hid (E.out.later hb); clear hb E; have E := E1; clear E1)
        | (go_at_call 29; (with_reducible refine (hPa.out _).mono ?_); clear hPa; rintro e w2 ⟨rfl, hb⟩; have E1 := Lib.hid (E.out.later hb); clear hb E; have E := E1; clear E1)
        | (go_at_call 30; (with_reducible refine (hBa.out _).mono ?_); clear hBa; rintro e w2 ⟨rfl, hb⟩; have E1 := Lib.hid (E.out.later hb); clear hb E; have E := E1; clear E1)
        | ((with_reducible refine kn_bputall (g := g8) E.out rfl rfl rfl rfl rfl ?h1 ?h2 ?_); (case h1 => exact hz24.out); (case h2 => exact hZl.out); clear E; intro u E0; have E := Lib.hid E0; clear E0)
        | ((with_reducible refine kn_ball (g := g8) E.out rfl rfl rfl ?h1 ?_); (case h1 => exact hZl.out))
        | ((with_reducible refine kn_stores (g := g9) (vs := i64s PV) E.out rfl rfl rfl rfl rfl ?hl ?h1 ?_); (case hl => exact ⟨hzz.out, by rw [i64s_length]; exact hpl.out⟩); (case h1 => exact i64s_one _); clear E; intro u E0; have E := Lib.hid E0; clear E0)
        | ((with_reducible refine kn_stores (g := g10) (vs := i64s BA) E.out rfl rfl rfl rfl rfl ?hl ?h1 ?_); (case hl => exact ⟨rfl, by rw [i64s_length]; exact hbl.out⟩); (case h1 => exact i64s_one _); clear E; intro u E0; have E := Lib.hid E0; clear E0)
        | ((with_reducible refine kn_load E.out rfl rfl rfl rfl ?_)) | ((with_reducible refine kn_load_if E.out rfl rfl rfl rfl ?_)) | ((with_reducible refine kn_loads E.out rfl rfl rfl ?_ ?_); (focus (first | rfl | (simp only [i64s_length, u8s_length]; first | rfl | assumption | omega)))) | ((with_reducible refine kn_loads_if E.out rfl rfl rfl ?_ ?_); (focus (first | rfl | (simp only [i64s_length, u8s_length]; first | rfl | assumption | omega)))) | ((with_reducible refine kn_stores E.out rfl rfl rfl rfl rfl ?_ ?_ ?_); (focus (first | exact ⟨rfl, rfl⟩ | (simp only [i64s_length, u8s_length]; refine ⟨?_, ?_⟩ <;> first | rfl | assumption | omega))); (focus (first | exact i64s_one _ | exact u8s_one _ | simp [Value.oneCell'])); clear E; intro u E0; have E := Lib.hid E0; clear E0) | ((with_reducible refine kn_alloc (o := ⟨some 4, _, _, _, _, _⟩) E.out rfl rfl ?_); clear E; intro g4 u E0 hb0; have E := Lib.hid E0; clear E0 hb0) | ((with_reducible refine kn_box (o := ⟨some 4, _, _, _, _, _⟩) E.out rfl rfl rfl ?_); clear E; intro g4 u E0 hb0; have E := Lib.hid E0; clear E0 hb0) | ((with_reducible refine kn_box_int (o := ⟨some 4, _, _, _, _, _⟩) E.out rfl rfl rfl ?_); clear E; intro g4 u E0 hb0; have E := Lib.hid E0; clear E0 hb0) | ((with_reducible refine kn_box_slice (o := ⟨some 4, _, _, _, _, _⟩) E.out rfl rfl rfl ?_); clear E; intro g4 u E0 hb0; have E := Lib.hid E0; clear E0 hb0) | ((with_reducible refine kn_box_bool (o := ⟨some 4, _, _, _, _, _⟩) E.out rfl rfl rfl ?_); clear E; intro g4 u E0 hb0; have E := Lib.hid E0; clear E0 hb0) | ((with_reducible refine kn_box_func (o := ⟨some 4, _, _, _, _, _⟩) E.out rfl rfl rfl ?_); clear E; intro g4 u E0 hb0; have E := Lib.hid E0; clear E0 hb0) | ((with_reducible refine kn_alloc (o := ⟨some 8, _, _, _, _, _⟩) E.out rfl rfl ?_); clear E; intro g8 u E0 hb0; have E := Lib.hid E0; clear E0 hb0) | ((with_reducible refine kn_box (o := ⟨some 8, _, _, _, _, _⟩) E.out rfl rfl rfl ?_); clear E; intro g8 u E0 hb0; have E := Lib.hid E0; clear E0 hb0) | ((with_reducible refine kn_box_int (o := ⟨some 8, _, _, _, _, _⟩) E.out rfl rfl rfl ?_); clear E; intro g8 u E0 hb0; have E := Lib.hid E0; clear E0 hb0) | ((with_reducible refine kn_box_slice (o := ⟨some 8, _, _, _, _, _⟩) E.out rfl rfl rfl ?_); clear E; intro g8 u E0 hb0; have E := Lib.hid E0; clear E0 hb0) | ((with_reducible refine kn_box_bool (o := ⟨some 8, _, _, _, _, _⟩) E.out rfl rfl rfl ?_); clear E; intro g8 u E0 hb0; have E := Lib.hid E0; clear E0 hb0) | ((with_reducible refine kn_box_func (o := ⟨some 8, _, _, _, _, _⟩) E.out rfl rfl rfl ?_); clear E; intro g8 u E0 hb0; have E := Lib.hid E0; clear E0 hb0) | ((with_reducible refine kn_alloc (o := ⟨some 9, _, _, _, _, _⟩) E.out rfl rfl ?_); clear E; intro g9 u E0 hb0; have E := Lib.hid E0; clear E0 hb0) | ((with_reducible refine kn_box (o := ⟨some 9, _, _, _, _, _⟩) E.out rfl rfl rfl ?_); clear E; intro g9 u E0 hb0; have E := Lib.hid E0; clear E0 hb0) | ((with_reducible refine kn_box_int (o := ⟨some 9, _, _, _, _, _⟩) E.out rfl rfl rfl ?_); clear E; intro g9 u E0 hb0; have E := Lib.hid E0; clear E0 hb0) | ((with_reducible refine kn_box_slice (o := ⟨some 9, _, _, _, _, _⟩) E.out rfl rfl rfl ?_); clear E; intro g9 u E0 hb0; have E := Lib.hid E0; clear E0 hb0) | ((with_reducible refine kn_box_bool (o := ⟨some 9, _, _, _, _, _⟩) E.out rfl rfl rfl ?_); clear E; intro g9 u E0 hb0; have E := Lib.hid E0; clear E0 hb0) | ((with_reducible refine kn_box_func (o := ⟨some 9, _, _, _, _, _⟩) E.out rfl rfl rfl ?_); clear E; intro g9 u E0 hb0; have E := Lib.hid E0; clear E0 hb0) | ((with_reducible refine kn_alloc (o := ⟨some 10, _, _, _, _, _⟩) E.out rfl rfl ?_); clear E; intro g10 u E0 hb0; have E := Lib.hid E0; clear E0 hb0) | ((with_reducible refine kn_box (o := ⟨some 10, _, _, _, _, _⟩) E.out rfl rfl rfl ?_); clear E; intro g10 u E0 hb0; have E := Lib.hid E0; clear E0 hb0) | ((with_reducible refine kn_box_int (o := ⟨some 10, _, _, _, _, _⟩) E.out rfl rfl rfl ?_); clear E; intro g10 u E0 hb0; have E := Lib.hid E0; clear E0 hb0) | ((with_reducible refine kn_box_slice (o := ⟨some 10, _, _, _, _, _⟩) E.out rfl rfl rfl ?_); clear E; intro g10 u E0 hb0; have E := Lib.hid E0; clear E0 hb0) | ((with_reducible refine kn_box_bool (o := ⟨some 10, _, _, _, _, _⟩) E.out rfl rfl rfl ?_); clear E; intro g10 u E0 hb0; have E := Lib.hid E0; clear E0 hb0) | ((with_reducible refine kn_box_func (o := ⟨some 10, _, _, _, _, _⟩) E.out rfl rfl rfl ?_); clear E; intro g10 u E0 hb0; have E := Lib.hid E0; clear E0 hb0))
      go_loopw [12] (fun ck wr => ∃ i : Nat, i ≤ 16 ∧ ck = .int .i64 (i : Int) ∧ Hid (Kn w [.row g10 51 (i64s BA), .row g9 27 (i64s (FL i)), .row g8 65 (blk d f Z), .row g4 27 (i64s z64)] [bsF A 8 xs] wr)) (fun ck _ => 16 - (intOf ck).toNat)
      case atStart => exact ⟨0, by omega, rfl, by rw [hF0.out]; exact E.out.part _ _ (by repeat (first | exact List.Sublist.refl _ | apply List.Sublist.cons_cons | apply List.Sublist.cons)) (by simp)⟩
      case round =>
        clear E
        obtain ⟨i, hi, rfl, E⟩ := hrel
        have hl := hFl.out i
        by_cases hlt : i < 16
        · have hi3 : (i : Int) < 16 := by omega
          have hi8 : (8 : Int) + i < 24 := by omega
          have hzb := hZb.out i hlt
          have hcw := Lib.hid (hCw.out i hlt)
          have hdl := Lib.hid (hDl.out i hlt)
          have hfs := Lib.hid (hFs.out i)
          have hd4 := hD4.out i
          have hdc := hDc.out i
          obtain ⟨v, hv⟩ : ∃ v : Nat, Z.getD (8 + i) 0 = (v : Int) := ⟨(Z.getD (8 + i) 0).toNat, by omega⟩
          rw [hv] at hcw hzb hd4 hdc
          have hv4 : v < 4 := by omega
          have hv42 : (v : Int) < 4 := by omega
          obtain ⟨O, hO⟩ : ∃ z, FL i = z := ⟨_, rfl⟩
          rw [hO] at hfs hl E
          rw [Int.toNat_natCast] at hd4
          have hrl : ((FR.drop (v * 4)).take 4).length = 4 := by rw [List.length_take, List.length_drop]; omega
          have hix := run_index_agg (P := Tryd.prog) 69 25 4 4 Tryd.underlying69 Tryd.underlying25 rfl (by kernel_rfl) FR v hv4 hfl
          clear hZb hCw hDl hFl hF0 hFs hD4 hDc hO
          generalize DT i = dt at *
          obtain ⟨r, hr⟩ : ∃ z, (FR.drop (v * 4)).take 4 = z := ⟨_, rfl⟩
          rw [hr] at hix hrl hd4
          replace hrl := Lib.hid hrl
          go_wp2_with (first | ((with_reducible refine kn_load E.out rfl rfl rfl rfl ?_)) | ((with_reducible refine kn_load_if E.out rfl rfl rfl rfl ?_)) | ((with_reducible refine kn_loads E.out rfl rfl rfl ?_ ?_); (focus (first | rfl | (simp only [i64s_length, u8s_length]; first | rfl | assumption | omega)))) | ((with_reducible refine kn_loads_if E.out rfl rfl rfl ?_ ?_); (focus (first | rfl | (simp only [i64s_length, u8s_length]; first | rfl | assumption | omega)))) | ((with_reducible refine kn_stores E.out rfl rfl rfl rfl rfl ?_ ?_ ?_); (focus (first | exact ⟨rfl, rfl⟩ | (simp only [i64s_length, u8s_length]; refine ⟨?_, ?_⟩ <;> first | rfl | assumption | omega))); (focus (first | exact i64s_one _ | exact u8s_one _ | simp [Value.oneCell'])); clear E; intro u E0; have E := Lib.hid E0; clear E0))
          refine wp_region_held_drew (S := Kn w [.row g8 65 (blk d f Z)] [bsF A 8 xs]) (by kernel_rfl) (E.out.drew.part _ _ (by repeat (first | exact List.Sublist.refl _ | apply List.Sublist.cons_cons | apply List.Sublist.cons)) (by simp)) (fun kS => ?_)
          have E1 := Lib.hid E.out.drew
          generalize World.drew _ = u1 at kS E1 ⊢
          clear E
          have E := E1
          clear E1
          (refine takeL (i := 0) (v := _) rfl (by kernel_rfl) (by kernel_rfl) (by kernel_rfl) (fun _ _ _ h => h) (by first | exact Or.inl ⟨by rfl, (by intro u hSu; clear hSu; go_simp; try with_reducible rfl)⟩ | exact Or.inr ⟨by rfl, rfl⟩) kS ?_; (try simp only [Act.put, List.setIfInBounds_toArray, List.set_cons_zero, List.set_cons_succ])); (refine takeL (i := 1) (v := _) rfl (by kernel_rfl) (by kernel_rfl) (by kernel_rfl) (fun _ _ _ h => h) (by first | exact Or.inl ⟨by rfl, (by intro u hSu; clear hSu; go_simp; try with_reducible rfl)⟩ | exact Or.inr ⟨by rfl, rfl⟩) kS ?_; (try simp only [Act.put, List.setIfInBounds_toArray, List.set_cons_zero, List.set_cons_succ])); (refine takeL (i := 2) (v := _) rfl (by kernel_rfl) (by kernel_rfl) (by kernel_rfl) (fun _ _ _ h => h) (by first | exact Or.inl ⟨by rfl, (by intro u hSu; clear hSu; go_simp; try with_reducible rfl)⟩ | exact Or.inr ⟨by rfl, rfl⟩) kS ?_; (try simp only [Act.put, List.setIfInBounds_toArray, List.set_cons_zero, List.set_cons_succ])); (refine takeL (i := 4) (v := _) rfl (by kernel_rfl) (by kernel_rfl) (by kernel_rfl) (fun _ _ _ h => h) (by first | exact Or.inl ⟨by rfl, (by intro u hSu; clear hSu; go_simp; try with_reducible rfl)⟩ | exact Or.inr ⟨by rfl, rfl⟩) kS ?_; (try simp only [Act.put, List.setIfInBounds_toArray, List.set_cons_zero, List.set_cons_succ])); (refine takeL (i := 5) (v := _) rfl (by kernel_rfl) (by kernel_rfl) (by kernel_rfl) (fun _ _ _ h => h) (by first | exact Or.inl ⟨by rfl, (by intro u hSu; clear hSu; go_simp; try with_reducible rfl)⟩ | exact Or.inr ⟨by rfl, rfl⟩) kS ?_; (try simp only [Act.put, List.setIfInBounds_toArray, List.set_cons_zero, List.set_cons_succ])); (refine takeL (i := 6) (v := _) rfl (by kernel_rfl) (by kernel_rfl) (by kernel_rfl) (fun _ _ _ h => h) (by first | exact Or.inl ⟨by rfl, (by intro u hSu; clear hSu; go_simp; try with_reducible rfl)⟩ | exact Or.inr ⟨by rfl, rfl⟩) kS ?_; (try simp only [Act.put, List.setIfInBounds_toArray, List.set_cons_zero, List.set_cons_succ]))
          (refine takeL (i := 7) (v := _) rfl (by kernel_rfl) (by kernel_rfl) (by kernel_rfl) (fun _ _ _ h => h) (yield_load (g := g8) (i := 10 + i) rfl rfl rfl hcw.out) kS ?_; (try simp only [Act.put, List.setIfInBounds_toArray, List.set_cons_zero, List.set_cons_succ]))
          refine callL (i := 3) rfl (by kernel_rfl) (fun K hK => ?_)
          (rw [if_pos (by rfl)]; go_simp; (with_reducible refine (hFo.out _ ?ha).mono ?_); (case ha => exact E.out.bs (by simp)); rintro e' w1 ⟨rfl, hb⟩; have E1 := Lib.hid (E.out.later hb); clear hb E; have E := E1; clear E1; go_wp2_with fail; (refine hK.out _ _ (E.out.part _ _ (by repeat (first | exact List.Sublist.refl _ | apply List.Sublist.cons_cons | apply List.Sublist.cons)) (by simp)) (fun kS => ?_); clear hK K; (try simp only [Act.put, List.setIfInBounds_toArray, List.set_cons_zero, List.set_cons_succ])))
          (refine takeL (i := 8) (v := _) rfl (by kernel_rfl) (by kernel_rfl) (by kernel_rfl) (fun _ _ _ h => h) (by first | exact Or.inl ⟨by rfl, (by intro u hSu; clear hSu; go_simp; try with_reducible rfl)⟩ | exact Or.inr ⟨by rfl, rfl⟩) kS ?_; (try simp only [Act.put, List.setIfInBounds_toArray, List.set_cons_zero, List.set_cons_succ])); (refine takeL (i := 9) (v := _) rfl (by kernel_rfl) (by kernel_rfl) (by kernel_rfl) (fun _ _ _ h => h) (by first | exact Or.inl ⟨by rfl, (by intro u hSu; clear hSu; go_simp; try with_reducible rfl)⟩ | exact Or.inr ⟨by rfl, rfl⟩) kS ?_; (try simp only [Act.put, List.setIfInBounds_toArray, List.set_cons_zero, List.set_cons_succ]))
          refine callL (i := 10) rfl (by kernel_rfl) (fun K hK => ?_)
          (rw [if_pos (by rfl)]; refine wp_kn_storeq (g := g9) (ys := r) E.out rfl rfl rfl rfl hrl.out (by omega) ?_; clear E kS; intro u E0; have E := Lib.hid E0; clear E0; (refine hK.out _ _ (E.out.part _ _ (by repeat (first | exact List.Sublist.refl _ | apply List.Sublist.cons_cons | apply List.Sublist.cons)) (by simp)) (fun kS => ?_); clear hK K; (try simp only [Act.put, List.setIfInBounds_toArray, List.set_cons_zero, List.set_cons_succ])))
          refine wpAnyH_done (by kernel_rfl) ?_ _
          have hdt := Lib.hid (hd4 (by simp))
          clear hd4 hdc
          go_wp2_with (first
            | ((with_reducible refine kn_load_if (g := g8) (i := 10 + i) E.out rfl rfl rfl hcw.out ?_))
            | ((with_reducible refine kn_load E.out rfl rfl rfl rfl ?_)) | ((with_reducible refine kn_load_if E.out rfl rfl rfl rfl ?_)) | ((with_reducible refine kn_loads E.out rfl rfl rfl ?_ ?_); (focus (first | rfl | (simp only [i64s_length, u8s_length]; first | rfl | assumption | omega)))) | ((with_reducible refine kn_loads_if E.out rfl rfl rfl ?_ ?_); (focus (first | rfl | (simp only [i64s_length, u8s_length]; first | rfl | assumption | omega)))) | ((with_reducible refine kn_stores E.out rfl rfl rfl rfl rfl ?_ ?_ ?_); (focus (first | exact ⟨rfl, rfl⟩ | (simp only [i64s_length, u8s_length]; refine ⟨?_, ?_⟩ <;> first | rfl | assumption | omega))); (focus (first | exact i64s_one _ | exact u8s_one _ | simp [Value.oneCell'])); clear E; intro u E0; have E := Lib.hid E0; clear E0))
          go_roundw
          case rel => exact ⟨i + 1, by omega, by go_num, by rw [hfs.out, hdt.out]; exact E.out.part _ _ (by repeat (first | exact List.Sublist.refl _ | apply List.Sublist.cons_cons | apply List.Sublist.cons)) (fun _ h => h)⟩
          case measure => simp [intOf]; try omega
        · have hi3 : ¬ ((i : Int) < 16) := by omega
          have ei : i = 16 := by omega
          rw [ei] at E
          have hl16 := hFl.out 16
          clear hZb hCw hDl hFl hF0 hFs hlt hi ei
          go_wp2_with (first
            | ((with_reducible refine kn_loads (g := g9) E.out rfl rfl rfl ?hl ?_); (case hl => rw [i64s_length]; exact hl16))
            | ((with_reducible refine kn_stores (g := g4) (vs := i64s (FL 16)) E.out rfl rfl rfl rfl rfl ?hl ?h1 ?_); (case hl => exact ⟨hzz.out, by rw [i64s_length]; exact hl16⟩); (case h1 => exact i64s_one _); clear E; intro u E0; have E := Lib.hid E0; clear E0)
            | ((with_reducible refine kn_load E.out rfl rfl rfl rfl ?_)) | ((with_reducible refine kn_load_if E.out rfl rfl rfl rfl ?_)) | ((with_reducible refine kn_loads E.out rfl rfl rfl ?_ ?_); (focus (first | rfl | (simp only [i64s_length, u8s_length]; first | rfl | assumption | omega)))) | ((with_reducible refine kn_loads_if E.out rfl rfl rfl ?_ ?_); (focus (first | rfl | (simp only [i64s_length, u8s_length]; first | rfl | assumption | omega)))) | ((with_reducible refine kn_stores E.out rfl rfl rfl rfl rfl ?_ ?_ ?_); (focus (first | exact ⟨rfl, rfl⟩ | (simp only [i64s_length, u8s_length]; refine ⟨?_, ?_⟩ <;> first | rfl | assumption | omega))); (focus (first | exact i64s_one _ | exact u8s_one _ | simp [Value.oneCell'])); clear E; intro u E0; have E := Lib.hid E0; clear E0))
          refine bodyPost_ret (results_kn2 E.out rfl _ rfl (by rw [i64s_length]; exact hl16)) rfl ?_
          exact ⟨rfl, E.out.bel⟩
    | false =>
      rw [hbt] at hT
      rw [hbt] at hDc hD4
      go_enter Tryd.func9, Tryd.ntmps9
      go_wp2_with (first
        | (go_at_call 11; (with_reducible refine (hK.out _ ?ha).mono ?_); (case ha => exact E.out.bs (by simp)); clear hK; rintro e w2 ⟨rfl, hb⟩; have E1 := Lib.hid (E.out.later hb); clear hb E; have E := E1; clear E1)
        | (go_at_call 27; (with_reducible refine (hT.out _ ?ha).mono ?_); (case ha => exact E.out.bs (by simp)); clear hT; rintro e w2 ⟨rfl, rfl⟩)
        | (go_at_call 28; (with_reducible refine (hP.out _ ?ha).mono ?_); (case ha => exact E.out.bs (by simp)); clear hP; rintro e w2 ⟨rfl, hb⟩; have E1 := Lib.hid (E.out.later hb); clear hb E; have E := E1; clear E1)
        | (go_at_call 29; (with_reducible refine (hPa.out _).mono ?_); clear hPa; rintro e w2 ⟨rfl, hb⟩; have E1 := Lib.hid (E.out.later hb); clear hb E; have E := E1; clear E1)
        | (go_at_call 30; (with_reducible refine (hBa.out _).mono ?_); clear hBa; rintro e w2 ⟨rfl, hb⟩; have E1 := Lib.hid (E.out.later hb); clear hb E; have E := E1; clear E1)
        | ((with_reducible refine kn_bputall (g := g8) E.out rfl rfl rfl rfl rfl ?h1 ?h2 ?_); (case h1 => exact hz24.out); (case h2 => exact hZl.out); clear E; intro u E0; have E := Lib.hid E0; clear E0)
        | ((with_reducible refine kn_ball (g := g8) E.out rfl rfl rfl ?h1 ?_); (case h1 => exact hZl.out))
        | ((with_reducible refine kn_stores (g := g9) (vs := i64s PV) E.out rfl rfl rfl rfl rfl ?hl ?h1 ?_); (case hl => exact ⟨hzz.out, by rw [i64s_length]; exact hpl.out⟩); (case h1 => exact i64s_one _); clear E; intro u E0; have E := Lib.hid E0; clear E0)
        | ((with_reducible refine kn_stores (g := g10) (vs := i64s BA) E.out rfl rfl rfl rfl rfl ?hl ?h1 ?_); (case hl => exact ⟨rfl, by rw [i64s_length]; exact hbl.out⟩); (case h1 => exact i64s_one _); clear E; intro u E0; have E := Lib.hid E0; clear E0)
        | ((with_reducible refine kn_load E.out rfl rfl rfl rfl ?_)) | ((with_reducible refine kn_load_if E.out rfl rfl rfl rfl ?_)) | ((with_reducible refine kn_loads E.out rfl rfl rfl ?_ ?_); (focus (first | rfl | (simp only [i64s_length, u8s_length]; first | rfl | assumption | omega)))) | ((with_reducible refine kn_loads_if E.out rfl rfl rfl ?_ ?_); (focus (first | rfl | (simp only [i64s_length, u8s_length]; first | rfl | assumption | omega)))) | ((with_reducible refine kn_stores E.out rfl rfl rfl rfl rfl ?_ ?_ ?_); (focus (first | exact ⟨rfl, rfl⟩ | (simp only [i64s_length, u8s_length]; refine ⟨?_, ?_⟩ <;> first | rfl | assumption | omega))); (focus (first | exact i64s_one _ | exact u8s_one _ | simp [Value.oneCell'])); clear E; intro u E0; have E := Lib.hid E0; clear E0) | ((with_reducible refine kn_alloc (o := ⟨some 4, _, _, _, _, _⟩) E.out rfl rfl ?_); clear E; intro g4 u E0 hb0; have E := Lib.hid E0; clear E0 hb0) | ((with_reducible refine kn_box (o := ⟨some 4, _, _, _, _, _⟩) E.out rfl rfl rfl ?_); clear E; intro g4 u E0 hb0; have E := Lib.hid E0; clear E0 hb0) | ((with_reducible refine kn_box_int (o := ⟨some 4, _, _, _, _, _⟩) E.out rfl rfl rfl ?_); clear E; intro g4 u E0 hb0; have E := Lib.hid E0; clear E0 hb0) | ((with_reducible refine kn_box_slice (o := ⟨some 4, _, _, _, _, _⟩) E.out rfl rfl rfl ?_); clear E; intro g4 u E0 hb0; have E := Lib.hid E0; clear E0 hb0) | ((with_reducible refine kn_box_bool (o := ⟨some 4, _, _, _, _, _⟩) E.out rfl rfl rfl ?_); clear E; intro g4 u E0 hb0; have E := Lib.hid E0; clear E0 hb0) | ((with_reducible refine kn_box_func (o := ⟨some 4, _, _, _, _, _⟩) E.out rfl rfl rfl ?_); clear E; intro g4 u E0 hb0; have E := Lib.hid E0; clear E0 hb0) | ((with_reducible refine kn_alloc (o := ⟨some 8, _, _, _, _, _⟩) E.out rfl rfl ?_); clear E; intro g8 u E0 hb0; have E := Lib.hid E0; clear E0 hb0) | ((with_reducible refine kn_box (o := ⟨some 8, _, _, _, _, _⟩) E.out rfl rfl rfl ?_); clear E; intro g8 u E0 hb0; have E := Lib.hid E0; clear E0 hb0) | ((with_reducible refine kn_box_int (o := ⟨some 8, _, _, _, _, _⟩) E.out rfl rfl rfl ?_); clear E; intro g8 u E0 hb0; have E := Lib.hid E0; clear E0 hb0) | ((with_reducible refine kn_box_slice (o := ⟨some 8, _, _, _, _, _⟩) E.out rfl rfl rfl ?_); clear E; intro g8 u E0 hb0; have E := Lib.hid E0; clear E0 hb0) | ((with_reducible refine kn_box_bool (o := ⟨some 8, _, _, _, _, _⟩) E.out rfl rfl rfl ?_); clear E; intro g8 u E0 hb0; have E := Lib.hid E0; clear E0 hb0) | ((with_reducible refine kn_box_func (o := ⟨some 8, _, _, _, _, _⟩) E.out rfl rfl rfl ?_); clear E; intro g8 u E0 hb0; have E := Lib.hid E0; clear E0 hb0) | ((with_reducible refine kn_alloc (o := ⟨some 9, _, _, _, _, _⟩) E.out rfl rfl ?_); clear E; intro g9 u E0 hb0; have E := Lib.hid E0; clear E0 hb0) | ((with_reducible refine kn_box (o := ⟨some 9, _, _, _, _, _⟩) E.out rfl rfl rfl ?_); clear E; intro g9 u E0 hb0; have E := Lib.hid E0; clear E0 hb0) | ((with_reducible refine kn_box_int (o := ⟨some 9, _, _, _, _, _⟩) E.out rfl rfl rfl ?_); clear E; intro g9 u E0 hb0; have E := Lib.hid E0; clear E0 hb0) | ((with_reducible refine kn_box_slice (o := ⟨some 9, _, _, _, _, _⟩) E.out rfl rfl rfl ?_); clear E; intro g9 u E0 hb0; have E := Lib.hid E0; clear E0 hb0) | ((with_reducible refine kn_box_bool (o := ⟨some 9, _, _, _, _, _⟩) E.out rfl rfl rfl ?_); clear E; intro g9 u E0 hb0; have E := Lib.hid E0; clear E0 hb0) | ((with_reducible refine kn_box_func (o := ⟨some 9, _, _, _, _, _⟩) E.out rfl rfl rfl ?_); clear E; intro g9 u E0 hb0; have E := Lib.hid E0; clear E0 hb0) | ((with_reducible refine kn_alloc (o := ⟨some 10, _, _, _, _, _⟩) E.out rfl rfl ?_); clear E; intro g10 u E0 hb0; have E := Lib.hid E0; clear E0 hb0) | ((with_reducible refine kn_box (o := ⟨some 10, _, _, _, _, _⟩) E.out rfl rfl rfl ?_); clear E; intro g10 u E0 hb0; have E := Lib.hid E0; clear E0 hb0) | ((with_reducible refine kn_box_int (o := ⟨some 10, _, _, _, _, _⟩) E.out rfl rfl rfl ?_); clear E; intro g10 u E0 hb0; have E := Lib.hid E0; clear E0 hb0) | ((with_reducible refine kn_box_slice (o := ⟨some 10, _, _, _, _, _⟩) E.out rfl rfl rfl ?_); clear E; intro g10 u E0 hb0; have E := Lib.hid E0; clear E0 hb0) | ((with_reducible refine kn_box_bool (o := ⟨some 10, _, _, _, _, _⟩) E.out rfl rfl rfl ?_); clear E; intro g10 u E0 hb0; have E := Lib.hid E0; clear E0 hb0) | ((with_reducible refine kn_box_func (o := ⟨some 10, _, _, _, _, _⟩) E.out rfl rfl rfl ?_); clear E; intro g10 u E0 hb0; have E := Lib.hid E0; clear E0 hb0))
      go_loopw [12] (fun ck wr => ∃ i : Nat, i ≤ 16 ∧ ck = .int .i64 (i : Int) ∧ Hid (Kn w [.row g10 51 (i64s BA), .row g9 27 (i64s (FL i)), .row g8 65 (blk d f Z), .row g4 27 (i64s z64)] [bsF A 8 xs] wr)) (fun ck _ => 16 - (intOf ck).toNat)
      case atStart => exact ⟨0, by omega, rfl, by rw [hF0.out]; exact E.out.part _ _ (by repeat (first | exact List.Sublist.refl _ | apply List.Sublist.cons_cons | apply List.Sublist.cons)) (by simp)⟩
      case round =>
        clear E
        obtain ⟨i, hi, rfl, E⟩ := hrel
        have hl := hFl.out i
        by_cases hlt : i < 16
        · have hi3 : (i : Int) < 16 := by omega
          have hi8 : (8 : Int) + i < 24 := by omega
          have hzb := hZb.out i hlt
          have hcw := Lib.hid (hCw.out i hlt)
          have hdl := Lib.hid (hDl.out i hlt)
          have hfs := Lib.hid (hFs.out i)
          have hd4 := hD4.out i
          have hdc := hDc.out i
          obtain ⟨v, hv⟩ : ∃ v : Nat, Z.getD (8 + i) 0 = (v : Int) := ⟨(Z.getD (8 + i) 0).toNat, by omega⟩
          rw [hv] at hcw hzb hd4 hdc
          have hv4 : v < 4 := by omega
          have hv42 : (v : Int) < 4 := by omega
          obtain ⟨O, hO⟩ : ∃ z, FL i = z := ⟨_, rfl⟩
          rw [hO] at hfs hl E
          rw [Int.toNat_natCast] at hd4
          have hrl : ((FR.drop (v * 4)).take 4).length = 4 := by rw [List.length_take, List.length_drop]; omega
          have hix := run_index_agg (P := Tryd.prog) 69 25 4 4 Tryd.underlying69 Tryd.underlying25 rfl (by kernel_rfl) FR v hv4 hfl
          clear hZb hCw hDl hFl hF0 hFs hD4 hDc hO
          generalize DT i = dt at *
          obtain ⟨r, hr⟩ : ∃ z, (FR.drop (v * 4)).take 4 = z := ⟨_, rfl⟩
          rw [hr] at hix hrl hd4
          replace hrl := Lib.hid hrl
          go_wp2_with (first | ((with_reducible refine kn_load E.out rfl rfl rfl rfl ?_)) | ((with_reducible refine kn_load_if E.out rfl rfl rfl rfl ?_)) | ((with_reducible refine kn_loads E.out rfl rfl rfl ?_ ?_); (focus (first | rfl | (simp only [i64s_length, u8s_length]; first | rfl | assumption | omega)))) | ((with_reducible refine kn_loads_if E.out rfl rfl rfl ?_ ?_); (focus (first | rfl | (simp only [i64s_length, u8s_length]; first | rfl | assumption | omega)))) | ((with_reducible refine kn_stores E.out rfl rfl rfl rfl rfl ?_ ?_ ?_); (focus (first | exact ⟨rfl, rfl⟩ | (simp only [i64s_length, u8s_length]; refine ⟨?_, ?_⟩ <;> first | rfl | assumption | omega))); (focus (first | exact i64s_one _ | exact u8s_one _ | simp [Value.oneCell'])); clear E; intro u E0; have E := Lib.hid E0; clear E0))
          refine wp_region_held_drew (S := Kn w [.row g8 65 (blk d f Z)] [bsF A 8 xs]) (by kernel_rfl) (E.out.drew.part _ _ (by repeat (first | exact List.Sublist.refl _ | apply List.Sublist.cons_cons | apply List.Sublist.cons)) (by simp)) (fun kS => ?_)
          have E1 := Lib.hid E.out.drew
          generalize World.drew _ = u1 at kS E1 ⊢
          clear E
          have E := E1
          clear E1
          (refine takeL (i := 0) (v := _) rfl (by kernel_rfl) (by kernel_rfl) (by kernel_rfl) (fun _ _ _ h => h) (by first | exact Or.inl ⟨by rfl, (by intro u hSu; clear hSu; go_simp; try with_reducible rfl)⟩ | exact Or.inr ⟨by rfl, rfl⟩) kS ?_; (try simp only [Act.put, List.setIfInBounds_toArray, List.set_cons_zero, List.set_cons_succ])); (refine takeL (i := 1) (v := _) rfl (by kernel_rfl) (by kernel_rfl) (by kernel_rfl) (fun _ _ _ h => h) (by first | exact Or.inl ⟨by rfl, (by intro u hSu; clear hSu; go_simp; try with_reducible rfl)⟩ | exact Or.inr ⟨by rfl, rfl⟩) kS ?_; (try simp only [Act.put, List.setIfInBounds_toArray, List.set_cons_zero, List.set_cons_succ])); (refine takeL (i := 2) (v := _) rfl (by kernel_rfl) (by kernel_rfl) (by kernel_rfl) (fun _ _ _ h => h) (by first | exact Or.inl ⟨by rfl, (by intro u hSu; clear hSu; go_simp; try with_reducible rfl)⟩ | exact Or.inr ⟨by rfl, rfl⟩) kS ?_; (try simp only [Act.put, List.setIfInBounds_toArray, List.set_cons_zero, List.set_cons_succ])); (refine takeL (i := 4) (v := _) rfl (by kernel_rfl) (by kernel_rfl) (by kernel_rfl) (fun _ _ _ h => h) (by first | exact Or.inl ⟨by rfl, (by intro u hSu; clear hSu; go_simp; try with_reducible rfl)⟩ | exact Or.inr ⟨by rfl, rfl⟩) kS ?_; (try simp only [Act.put, List.setIfInBounds_toArray, List.set_cons_zero, List.set_cons_succ])); (refine takeL (i := 5) (v := _) rfl (by kernel_rfl) (by kernel_rfl) (by kernel_rfl) (fun _ _ _ h => h) (by first | exact Or.inl ⟨by rfl, (by intro u hSu; clear hSu; go_simp; try with_reducible rfl)⟩ | exact Or.inr ⟨by rfl, rfl⟩) kS ?_; (try simp only [Act.put, List.setIfInBounds_toArray, List.set_cons_zero, List.set_cons_succ])); (refine takeL (i := 6) (v := _) rfl (by kernel_rfl) (by kernel_rfl) (by kernel_rfl) (fun _ _ _ h => h) (by first | exact Or.inl ⟨by rfl, (by intro u hSu; clear hSu; go_simp; try with_reducible rfl)⟩ | exact Or.inr ⟨by rfl, rfl⟩) kS ?_; (try simp only [Act.put, List.setIfInBounds_toArray, List.set_cons_zero, List.set_cons_succ]))
          (refine takeL (i := 7) (v := _) rfl (by kernel_rfl) (by kernel_rfl) (by kernel_rfl) (fun _ _ _ h => h) (yield_load (g := g8) (i := 10 + i) rfl rfl rfl hcw.out) kS ?_; (try simp only [Act.put, List.setIfInBounds_toArray, List.set_cons_zero, List.set_cons_succ]))
          refine callL (i := 3) rfl (by kernel_rfl) (fun K hK => ?_)
          (rw [if_pos (by rfl)]; go_simp; (with_reducible refine (hFo.out _ ?ha).mono ?_); (case ha => exact E.out.bs (by simp)); rintro e' w1 ⟨rfl, hb⟩; have E1 := Lib.hid (E.out.later hb); clear hb E; have E := E1; clear E1; go_wp2_with fail; (refine hK.out _ _ (E.out.part _ _ (by repeat (first | exact List.Sublist.refl _ | apply List.Sublist.cons_cons | apply List.Sublist.cons)) (by simp)) (fun kS => ?_); clear hK K; (try simp only [Act.put, List.setIfInBounds_toArray, List.set_cons_zero, List.set_cons_succ])))
          (refine takeL (i := 8) (v := _) rfl (by kernel_rfl) (by kernel_rfl) (by kernel_rfl) (fun _ _ _ h => h) (by first | exact Or.inl ⟨by rfl, (by intro u hSu; clear hSu; go_simp; try with_reducible rfl)⟩ | exact Or.inr ⟨by rfl, rfl⟩) kS ?_; (try simp only [Act.put, List.setIfInBounds_toArray, List.set_cons_zero, List.set_cons_succ])); (refine takeL (i := 9) (v := _) rfl (by kernel_rfl) (by kernel_rfl) (by kernel_rfl) (fun _ _ _ h => h) (by first | exact Or.inl ⟨by rfl, (by intro u hSu; clear hSu; go_simp; try with_reducible rfl)⟩ | exact Or.inr ⟨by rfl, rfl⟩) kS ?_; (try simp only [Act.put, List.setIfInBounds_toArray, List.set_cons_zero, List.set_cons_succ]))
          refine callL (i := 10) rfl (by kernel_rfl) (fun K hK => ?_)
          (rw [if_pos (by rfl)]; refine wp_kn_storeq (g := g9) (ys := r) E.out rfl rfl rfl rfl hrl.out (by omega) ?_; clear E kS; intro u E0; have E := Lib.hid E0; clear E0; (refine hK.out _ _ (E.out.part _ _ (by repeat (first | exact List.Sublist.refl _ | apply List.Sublist.cons_cons | apply List.Sublist.cons)) (by simp)) (fun kS => ?_); clear hK K; (try simp only [Act.put, List.setIfInBounds_toArray, List.set_cons_zero, List.set_cons_succ])))
          refine wpAnyH_done (by kernel_rfl) ?_ _
          by_cases hq : v = 2
          · have hdt := Lib.hid (hdc rfl (by omega))
            have hqb : ((v : Int) == 2) = true := by simp; omega
            clear hd4 hdc
            have hq0 : ((v : Int) == 0) = false := by simp; omega
            have ho4 : i * 4 + 4 ≤ (spl O (i * 4) r).length := by rw [spl_length]; omega
            go_wp2_with (first
              | ((with_reducible refine kn_load_if (g := g8) (i := 10 + i) E.out rfl rfl rfl hcw.out ?_))
              | ((with_reducible refine kn_storep (g := g9) (off := i * 4) (ys := [0, 0, 0, 0]) E.out rfl rfl rfl rfl ?hy ?hl ?hm ?_); (case hy => rfl); (case hl => rfl); (case hm => exact ho4); clear E; intro u E0; have E := Lib.hid E0; clear E0)
              | ((with_reducible refine kn_load E.out rfl rfl rfl rfl ?_)) | ((with_reducible refine kn_load_if E.out rfl rfl rfl rfl ?_)) | ((with_reducible refine kn_loads E.out rfl rfl rfl ?_ ?_); (focus (first | rfl | (simp only [i64s_length, u8s_length]; first | rfl | assumption | omega)))) | ((with_reducible refine kn_loads_if E.out rfl rfl rfl ?_ ?_); (focus (first | rfl | (simp only [i64s_length, u8s_length]; first | rfl | assumption | omega)))) | ((with_reducible refine kn_stores E.out rfl rfl rfl rfl rfl ?_ ?_ ?_); (focus (first | exact ⟨rfl, rfl⟩ | (simp only [i64s_length, u8s_length]; refine ⟨?_, ?_⟩ <;> first | rfl | assumption | omega))); (focus (first | exact i64s_one _ | exact u8s_one _ | simp [Value.oneCell'])); clear E; intro u E0; have E := Lib.hid E0; clear E0))
            rw [spl_twice O r [0, 0, 0, 0] (i * 4) hrl.out rfl (by omega)] at E
            go_roundw
            case rel => exact ⟨i + 1, by omega, by go_num, by rw [hfs.out, hdt.out]; exact E.out.part _ _ (by repeat (first | exact List.Sublist.refl _ | apply List.Sublist.cons_cons | apply List.Sublist.cons)) (fun _ h => h)⟩
            case measure => simp [intOf]; try omega
          · have hdt := Lib.hid (hd4 (fun hh => hq (by omega)))
            have hqb : ((v : Int) == 2) = false := by simp; omega
            clear hd4 hdc
            go_wp2_with (first
              | ((with_reducible refine kn_load_if (g := g8) (i := 10 + i) E.out rfl rfl rfl hcw.out ?_))
              | ((with_reducible refine kn_load E.out rfl rfl rfl rfl ?_)) | ((with_reducible refine kn_load_if E.out rfl rfl rfl rfl ?_)) | ((with_reducible refine kn_loads E.out rfl rfl rfl ?_ ?_); (focus (first | rfl | (simp only [i64s_length, u8s_length]; first | rfl | assumption | omega)))) | ((with_reducible refine kn_loads_if E.out rfl rfl rfl ?_ ?_); (focus (first | rfl | (simp only [i64s_length, u8s_length]; first | rfl | assumption | omega)))) | ((with_reducible refine kn_stores E.out rfl rfl rfl rfl rfl ?_ ?_ ?_); (focus (first | exact ⟨rfl, rfl⟩ | (simp only [i64s_length, u8s_length]; refine ⟨?_, ?_⟩ <;> first | rfl | assumption | omega))); (focus (first | exact i64s_one _ | exact u8s_one _ | simp [Value.oneCell'])); clear E; intro u E0; have E := Lib.hid E0; clear E0))
            go_roundw
            case rel => exact ⟨i + 1, by omega, by go_num, by rw [hfs.out, hdt.out]; exact E.out.part _ _ (by repeat (first | exact List.Sublist.refl _ | apply List.Sublist.cons_cons | apply List.Sublist.cons)) (fun _ h => h)⟩
            case measure => simp [intOf]; try omega
        · have hi3 : ¬ ((i : Int) < 16) := by omega
          have ei : i = 16 := by omega
          rw [ei] at E
          have hl16 := hFl.out 16
          clear hZb hCw hDl hFl hF0 hFs hlt hi ei
          go_wp2_with (first
            | ((with_reducible refine kn_loads (g := g9) E.out rfl rfl rfl ?hl ?_); (case hl => rw [i64s_length]; exact hl16))
            | ((with_reducible refine kn_stores (g := g4) (vs := i64s (FL 16)) E.out rfl rfl rfl rfl rfl ?hl ?h1 ?_); (case hl => exact ⟨hzz.out, by rw [i64s_length]; exact hl16⟩); (case h1 => exact i64s_one _); clear E; intro u E0; have E := Lib.hid E0; clear E0)
            | ((with_reducible refine kn_load E.out rfl rfl rfl rfl ?_)) | ((with_reducible refine kn_load_if E.out rfl rfl rfl rfl ?_)) | ((with_reducible refine kn_loads E.out rfl rfl rfl ?_ ?_); (focus (first | rfl | (simp only [i64s_length, u8s_length]; first | rfl | assumption | omega)))) | ((with_reducible refine kn_loads_if E.out rfl rfl rfl ?_ ?_); (focus (first | rfl | (simp only [i64s_length, u8s_length]; first | rfl | assumption | omega)))) | ((with_reducible refine kn_stores E.out rfl rfl rfl rfl rfl ?_ ?_ ?_); (focus (first | exact ⟨rfl, rfl⟩ | (simp only [i64s_length, u8s_length]; refine ⟨?_, ?_⟩ <;> first | rfl | assumption | omega))); (focus (first | exact i64s_one _ | exact u8s_one _ | simp [Value.oneCell'])); clear E; intro u E0; have E := Lib.hid E0; clear E0))
          refine bodyPost_ret (results_kn2 E.out rfl _ rfl (by rw [i64s_length]; exact hl16)) rfl ?_
          exact ⟨rfl, E.out.bel⟩
set_option maxHeartbeats 4000000 in
set_option maxRecDepth 100000 in
theorem rdecH (A : Option Addr) (c : Nat) (p : Bool) (xs : List Nat) (w : World) (h : Bs w w.heap.size A 8 xs) (hk : kdN p xs = 2) :
    Calls Tryd.prog 9 #[.slice A 8 c, .bool p] w fun e w' => e = .returned (.tuple #[arr (fl z64 (dtV p xs) 16), .int .i64 0]) ∧ Below w.heap.size w w' := by
  have E := Lib.hid ((Kn.start w).arg_bs h)
  have hxl := h.1
  have hK := Lib.hid (fun u hu => show Calls Tryd.prog 11 #[.slice A 8 c, .bool p] u (fun e w' => e = .returned (.int .i64 ((kdN p xs : Nat) : Int)) ∧ Below u.heap.size u w') from kind11 A 8 c p xs u hu (by omega))
  have hP := Lib.hid (fun u hu => parts11 A c p xs u hu)
  have hPa := Lib.hid (fun u => rpaint_any (pD (pxs p xs)) (pF (pxs p xs)) (pZ (pxs p xs)) u (pZ_length _) (ok_parts _))
  have hBa := Lib.hid (fun u => rbases_any (pD (pxs p xs)) (pF (pxs p xs)) (pZ (pxs p xs)) u (pZ_length _) (ok_parts _))
  have hT := Lib.hid (fun u hu => show Calls Tryd.prog 27 #[.slice A 8 c, .int .i64 30, .int .i64 1] u (fun e w' => e = .returned (.int .i64 (((bt xs true 30).toNat : Nat) : Int)) ∧ u = w') from by
    have k := top_any A 8 c 30 1 30 1 rfl rfl xs u.heap.size u hu (by omega) (by omega) (by omega)
    rw [G_one] at k
    exact k)
  have hz24 := Lib.hid z24_length
  have hzz := Lib.hid (show (i64s z64).length = 64 from rfl)
  have hZl := Lib.hid (pZ_length (pxs p xs))
  have hbl := Lib.hid (baV_length (pD (pxs p xs)) (pZ (pxs p xs)))
  have hpl := Lib.hid (paV_length (pD (pxs p xs)) (pF (pxs p xs)) (pZ (pxs p xs)))
  have hFl := Lib.hid (fun k => show (fl (paV (pD (pxs p xs)) (pF (pxs p xs)) (pZ (pxs p xs))) (dtV p xs) k).length = 64 from by rw [fl_length]; exact paV_length _ _ _)
  have hF0 := Lib.hid (fl_zero (paV (pD (pxs p xs)) (pF (pxs p xs)) (pZ (pxs p xs))) (dtV p xs))
  have hFs := Lib.hid (fun k => fl_succ (paV (pD (pxs p xs)) (pF (pxs p xs)) (pZ (pxs p xs))) (dtV p xs) k)
  have hFe : fl (paV (pD (pxs p xs)) (pF (pxs p xs)) (pZ (pxs p xs))) (dtV p xs) 16 = fl z64 (dtV p xs) 16 := fl_base _ _ (paV_length _ _ _) z64_length _ (fun i hi => dtV_length p xs i hi)
  have hZb := Lib.hid (fun i (hi : i < 16) => z_bd (pxs p xs) i hi)
  have hCw := Lib.hid (fun i (hi : i < 16) => blk_z (pD (pxs p xs)) (pF (pxs p xs)) (pZ (pxs p xs)) (show 10 + i = (8 + i) + 2 by omega) (by rw [pZ_length]; omega))
  have hDl := Lib.hid (fun i (hi : i < 16) => dtV_length p xs i hi)
  rw [← hFe]
  have hFo := Lib.hid (fun u hu => show Calls Tryd.prog 31 #[.slice A 8 c, .int .i64 2] u (fun e w' => e = .returned (arr (frV (kdN p xs) xs)) ∧ Below u.heap.size u w') from by rw [hk]; exact four11 A c 2 (.inr rfl) xs u hu)
  have hfl := frV_length (kdN p xs) xs
  have hDc := Lib.hid (fun i ho hw => dtV_clear p xs i ho hw)
  have hD4 := Lib.hid (fun i hn => dtV_four p xs i (.inr hk) hn)
  rw [opq_top] at hDc hD4
  clear h hFe hxl
  generalize frV (kdN p xs) xs = FR at *
  generalize kdN p xs = kd at *
  subst hk
  generalize fl (paV (pD (pxs p xs)) (pF (pxs p xs)) (pZ (pxs p xs))) (dtV p xs) = FL at *
  generalize paV (pD (pxs p xs)) (pF (pxs p xs)) (pZ (pxs p xs)) = PV at *
  generalize baV (pD (pxs p xs)) (pZ (pxs p xs)) = BA at *
  generalize dtV p xs = DT at *
  generalize pZ (pxs p xs) = Z at *
  generalize pF (pxs p xs) = f at *
  generalize pD (pxs p xs) = d at *
  cases p with
  | false =>
    go_enter Tryd.func9, Tryd.ntmps9
    go_wp2_with (first
      | (go_at_call 11; (with_reducible refine (hK.out _ ?ha).mono ?_); (case ha => exact E.out.bs (by simp)); clear hK; rintro e w2 ⟨rfl, hb⟩; have E1 := Lib.hid (E.out.later hb); clear hb E; have E := E1; clear E1)
      | (go_at_call 27; (with_reducible refine (hT.out _ ?ha).mono ?_); (case ha => exact E.out.bs (by simp)); clear hT; rintro e w2 ⟨rfl, rfl⟩)
      | (go_at_call 28; (with_reducible refine (hP.out _ ?ha).mono ?_); (case ha => exact E.out.bs (by simp)); clear hP; rintro e w2 ⟨rfl, hb⟩; have E1 := Lib.hid (E.out.later hb); clear hb E; have E := E1; clear E1)
      | (go_at_call 29; (with_reducible refine (hPa.out _).mono ?_); clear hPa; rintro e w2 ⟨rfl, hb⟩; have E1 := Lib.hid (E.out.later hb); clear hb E; have E := E1; clear E1)
      | (go_at_call 30; (with_reducible refine (hBa.out _).mono ?_); clear hBa; rintro e w2 ⟨rfl, hb⟩; have E1 := Lib.hid (E.out.later hb); clear hb E; have E := E1; clear E1)
      | ((with_reducible refine kn_bputall (g := g8) E.out rfl rfl rfl rfl rfl ?h1 ?h2 ?_); (case h1 => exact hz24.out); (case h2 => exact hZl.out); clear E; intro u E0; have E := Lib.hid E0; clear E0)
      | ((with_reducible refine kn_ball (g := g8) E.out rfl rfl rfl ?h1 ?_); (case h1 => exact hZl.out))
      | ((with_reducible refine kn_stores (g := g9) (vs := i64s PV) E.out rfl rfl rfl rfl rfl ?hl ?h1 ?_); (case hl => exact ⟨hzz.out, by rw [i64s_length]; exact hpl.out⟩); (case h1 => exact i64s_one _); clear E; intro u E0; have E := Lib.hid E0; clear E0)
      | ((with_reducible refine kn_stores (g := g10) (vs := i64s BA) E.out rfl rfl rfl rfl rfl ?hl ?h1 ?_); (case hl => exact ⟨rfl, by rw [i64s_length]; exact hbl.out⟩); (case h1 => exact i64s_one _); clear E; intro u E0; have E := Lib.hid E0; clear E0)
      | ((with_reducible refine kn_load E.out rfl rfl rfl rfl ?_)) | ((with_reducible refine kn_load_if E.out rfl rfl rfl rfl ?_)) | ((with_reducible refine kn_loads E.out rfl rfl rfl ?_ ?_); (focus (first | rfl | (simp only [i64s_length, u8s_length]; first | rfl | assumption | omega)))) | ((with_reducible refine kn_loads_if E.out rfl rfl rfl ?_ ?_); (focus (first | rfl | (simp only [i64s_length, u8s_length]; first | rfl | assumption | omega)))) | ((with_reducible refine kn_stores E.out rfl rfl rfl rfl rfl ?_ ?_ ?_); (focus (first | exact ⟨rfl, rfl⟩ | (simp only [i64s_length, u8s_length]; refine ⟨?_, ?_⟩ <;> first | rfl | assumption | omega))); (focus (first | exact i64s_one _ | exact u8s_one _ | simp [Value.oneCell'])); clear E; intro u E0; have E := Lib.hid E0; clear E0) | ((with_reducible refine kn_alloc (o := ⟨some 4, _, _, _, _, _⟩) E.out rfl rfl ?_); clear E; intro g4 u E0 hb0; have E := Lib.hid E0; clear E0 hb0) | ((with_reducible refine kn_box (o := ⟨some 4, _, _, _, _, _⟩) E.out rfl rfl rfl ?_); clear E; intro g4 u E0 hb0; have E := Lib.hid E0; clear E0 hb0) | ((with_reducible refine kn_box_int (o := ⟨some 4, _, _, _, _, _⟩) E.out rfl rfl rfl ?_); clear E; intro g4 u E0 hb0; have E := Lib.hid E0; clear E0 hb0) | ((with_reducible refine kn_box_slice (o := ⟨some 4, _, _, _, _, _⟩) E.out rfl rfl rfl ?_); clear E; intro g4 u E0 hb0; have E := Lib.hid E0; clear E0 hb0) | ((with_reducible refine kn_box_bool (o := ⟨some 4, _, _, _, _, _⟩) E.out rfl rfl rfl ?_); clear E; intro g4 u E0 hb0; have E := Lib.hid E0; clear E0 hb0) | ((with_reducible refine kn_box_func (o := ⟨some 4, _, _, _, _, _⟩) E.out rfl rfl rfl ?_); clear E; intro g4 u E0 hb0; have E := Lib.hid E0; clear E0 hb0) | ((with_reducible refine kn_alloc (o := ⟨some 8, _, _, _, _, _⟩) E.out rfl rfl ?_); clear E; intro g8 u E0 hb0; have E := Lib.hid E0; clear E0 hb0) | ((with_reducible refine kn_box (o := ⟨some 8, _, _, _, _, _⟩) E.out rfl rfl rfl ?_); clear E; intro g8 u E0 hb0; have E := Lib.hid E0; clear E0 hb0) | ((with_reducible refine kn_box_int (o := ⟨some 8, _, _, _, _, _⟩) E.out rfl rfl rfl ?_); clear E; intro g8 u E0 hb0; have E := Lib.hid E0; clear E0 hb0) | ((with_reducible refine kn_box_slice (o := ⟨some 8, _, _, _, _, _⟩) E.out rfl rfl rfl ?_); clear E; intro g8 u E0 hb0; have E := Lib.hid E0; clear E0 hb0) | ((with_reducible refine kn_box_bool (o := ⟨some 8, _, _, _, _, _⟩) E.out rfl rfl rfl ?_); clear E; intro g8 u E0 hb0; have E := Lib.hid E0; clear E0 hb0) | ((with_reducible refine kn_box_func (o := ⟨some 8, _, _, _, _, _⟩) E.out rfl rfl rfl ?_); clear E; intro g8 u E0 hb0; have E := Lib.hid E0; clear E0 hb0) | ((with_reducible refine kn_alloc (o := ⟨some 9, _, _, _, _, _⟩) E.out rfl rfl ?_); clear E; intro g9 u E0 hb0; have E := Lib.hid E0; clear E0 hb0) | ((with_reducible refine kn_box (o := ⟨some 9, _, _, _, _, _⟩) E.out rfl rfl rfl ?_); clear E; intro g9 u E0 hb0; have E := Lib.hid E0; clear E0 hb0) | ((with_reducible refine kn_box_int (o := ⟨some 9, _, _, _, _, _⟩) E.out rfl rfl rfl ?_); clear E; intro g9 u E0 hb0; have E := Lib.hid E0; clear E0 hb0) | ((with_reducible refine kn_box_slice (o := ⟨some 9, _, _, _, _, _⟩) E.out rfl rfl rfl ?_); clear E; intro g9 u E0 hb0; have E := Lib.hid E0; clear E0 hb0) | ((with_reducible refine kn_box_bool (o := ⟨some 9, _, _, _, _, _⟩) E.out rfl rfl rfl ?_); clear E; intro g9 u E0 hb0; have E := Lib.hid E0; clear E0 hb0) | ((with_reducible refine kn_box_func (o := ⟨some 9, _, _, _, _, _⟩) E.out rfl rfl rfl ?_); clear E; intro g9 u E0 hb0; have E := Lib.hid E0; clear E0 hb0) | ((with_reducible refine kn_alloc (o := ⟨some 10, _, _, _, _, _⟩) E.out rfl rfl ?_); clear E; intro g10 u E0 hb0; have E := Lib.hid E0; clear E0 hb0) | ((with_reducible refine kn_box (o := ⟨some 10, _, _, _, _, _⟩) E.out rfl rfl rfl ?_); clear E; intro g10 u E0 hb0; have E := Lib.hid E0; clear E0 hb0) | ((with_reducible refine kn_box_int (o := ⟨some 10, _, _, _, _, _⟩) E.out rfl rfl rfl ?_); clear E; intro g10 u E0 hb0; have E := Lib.hid E0; clear E0 hb0) | ((with_reducible refine kn_box_slice (o := ⟨some 10, _, _, _, _, _⟩) E.out rfl rfl rfl ?_); clear E; intro g10 u E0 hb0; have E := Lib.hid E0; clear E0 hb0) | ((with_reducible refine kn_box_bool (o := ⟨some 10, _, _, _, _, _⟩) E.out rfl rfl rfl ?_); clear E; intro g10 u E0 hb0; have E := Lib.hid E0; clear E0 hb0) | ((with_reducible refine kn_box_func (o := ⟨some 10, _, _, _, _, _⟩) E.out rfl rfl rfl ?_); clear E; intro g10 u E0 hb0; have E := Lib.hid E0; clear E0 hb0))
    go_loopw [12] (fun ck wr => ∃ i : Nat, i ≤ 16 ∧ ck = .int .i64 (i : Int) ∧ Hid (Kn w [.row g10 51 (i64s BA), .row g9 27 (i64s (FL i)), .row g8 65 (blk d f Z), .row g4 27 (i64s z64)] [bsF A 8 xs] wr)) (fun ck _ => 16 - (intOf ck).toNat)
    case atStart => exact ⟨0, by omega, rfl, by rw [hF0.out]; exact E.out.part _ _ (by repeat (first | exact List.Sublist.refl _ | apply List.Sublist.cons_cons | apply List.Sublist.cons)) (by simp)⟩
    case round =>
      clear E
      obtain ⟨i, hi, rfl, E⟩ := hrel
      have hl := hFl.out i
      by_cases hlt : i < 16
      · have hi3 : (i : Int) < 16 := by omega
        have hi8 : (8 : Int) + i < 24 := by omega
        have hzb := hZb.out i hlt
        have hcw := Lib.hid (hCw.out i hlt)
        have hdl := Lib.hid (hDl.out i hlt)
        have hfs := Lib.hid (hFs.out i)
        have hd4 := hD4.out i
        have hdc := hDc.out i
        obtain ⟨v, hv⟩ : ∃ v : Nat, Z.getD (8 + i) 0 = (v : Int) := ⟨(Z.getD (8 + i) 0).toNat, by omega⟩
        rw [hv] at hcw hzb hd4 hdc
        have hv4 : v < 4 := by omega
        have hv42 : (v : Int) < 4 := by omega
        obtain ⟨O, hO⟩ : ∃ z, FL i = z := ⟨_, rfl⟩
        rw [hO] at hfs hl E
        rw [Int.toNat_natCast] at hd4
        have hrl : ((FR.drop (v * 4)).take 4).length = 4 := by rw [List.length_take, List.length_drop]; omega
        have hix := run_index_agg (P := Tryd.prog) 69 25 4 4 Tryd.underlying69 Tryd.underlying25 rfl (by kernel_rfl) FR v hv4 hfl
        clear hZb hCw hDl hFl hF0 hFs hD4 hDc hO
        generalize DT i = dt at *
        obtain ⟨r, hr⟩ : ∃ z, (FR.drop (v * 4)).take 4 = z := ⟨_, rfl⟩
        rw [hr] at hix hrl hd4
        replace hrl := Lib.hid hrl
        go_wp2_with (first | ((with_reducible refine kn_load E.out rfl rfl rfl rfl ?_)) | ((with_reducible refine kn_load_if E.out rfl rfl rfl rfl ?_)) | ((with_reducible refine kn_loads E.out rfl rfl rfl ?_ ?_); (focus (first | rfl | (simp only [i64s_length, u8s_length]; first | rfl | assumption | omega)))) | ((with_reducible refine kn_loads_if E.out rfl rfl rfl ?_ ?_); (focus (first | rfl | (simp only [i64s_length, u8s_length]; first | rfl | assumption | omega)))) | ((with_reducible refine kn_stores E.out rfl rfl rfl rfl rfl ?_ ?_ ?_); (focus (first | exact ⟨rfl, rfl⟩ | (simp only [i64s_length, u8s_length]; refine ⟨?_, ?_⟩ <;> first | rfl | assumption | omega))); (focus (first | exact i64s_one _ | exact u8s_one _ | simp [Value.oneCell'])); clear E; intro u E0; have E := Lib.hid E0; clear E0))
        refine wp_region_held_drew (S := Kn w [.row g8 65 (blk d f Z)] [bsF A 8 xs]) (by kernel_rfl) (E.out.drew.part _ _ (by repeat (first | exact List.Sublist.refl _ | apply List.Sublist.cons_cons | apply List.Sublist.cons)) (by simp)) (fun kS => ?_)
        have E1 := Lib.hid E.out.drew
        generalize World.drew _ = u1 at kS E1 ⊢
        clear E
        have E := E1
        clear E1
        (refine takeL (i := 0) (v := _) rfl (by kernel_rfl) (by kernel_rfl) (by kernel_rfl) (fun _ _ _ h => h) (by first | exact Or.inl ⟨by rfl, (by intro u hSu; clear hSu; go_simp; try with_reducible rfl)⟩ | exact Or.inr ⟨by rfl, rfl⟩) kS ?_; (try simp only [Act.put, List.setIfInBounds_toArray, List.set_cons_zero, List.set_cons_succ])); (refine takeL (i := 1) (v := _) rfl (by kernel_rfl) (by kernel_rfl) (by kernel_rfl) (fun _ _ _ h => h) (by first | exact Or.inl ⟨by rfl, (by intro u hSu; clear hSu; go_simp; try with_reducible rfl)⟩ | exact Or.inr ⟨by rfl, rfl⟩) kS ?_; (try simp only [Act.put, List.setIfInBounds_toArray, List.set_cons_zero, List.set_cons_succ])); (refine takeL (i := 2) (v := _) rfl (by kernel_rfl) (by kernel_rfl) (by kernel_rfl) (fun _ _ _ h => h) (by first | exact Or.inl ⟨by rfl, (by intro u hSu; clear hSu; go_simp; try with_reducible rfl)⟩ | exact Or.inr ⟨by rfl, rfl⟩) kS ?_; (try simp only [Act.put, List.setIfInBounds_toArray, List.set_cons_zero, List.set_cons_succ])); (refine takeL (i := 4) (v := _) rfl (by kernel_rfl) (by kernel_rfl) (by kernel_rfl) (fun _ _ _ h => h) (by first | exact Or.inl ⟨by rfl, (by intro u hSu; clear hSu; go_simp; try with_reducible rfl)⟩ | exact Or.inr ⟨by rfl, rfl⟩) kS ?_; (try simp only [Act.put, List.setIfInBounds_toArray, List.set_cons_zero, List.set_cons_succ])); (refine takeL (i := 5) (v := _) rfl (by kernel_rfl) (by kernel_rfl) (by kernel_rfl) (fun _ _ _ h => h) (by first | exact Or.inl ⟨by rfl, (by intro u hSu; clear hSu; go_simp; try with_reducible rfl)⟩ | exact Or.inr ⟨by rfl, rfl⟩) kS ?_; (try simp only [Act.put, List.setIfInBounds_toArray, List.set_cons_zero, List.set_cons_succ])); (refine takeL (i := 6) (v := _) rfl (by kernel_rfl) (by kernel_rfl) (by kernel_rfl) (fun _ _ _ h => h) (by first | exact Or.inl ⟨by rfl, (by intro u hSu; clear hSu; go_simp; try with_reducible rfl)⟩ | exact Or.inr ⟨by rfl, rfl⟩) kS ?_; (try simp only [Act.put, List.setIfInBounds_toArray, List.set_cons_zero, List.set_cons_succ]))
        (refine takeL (i := 7) (v := _) rfl (by kernel_rfl) (by kernel_rfl) (by kernel_rfl) (fun _ _ _ h => h) (yield_load (g := g8) (i := 10 + i) rfl rfl rfl hcw.out) kS ?_; (try simp only [Act.put, List.setIfInBounds_toArray, List.set_cons_zero, List.set_cons_succ]))
        refine callL (i := 3) rfl (by kernel_rfl) (fun K hK => ?_)
        (rw [if_pos (by rfl)]; go_simp; (with_reducible refine (hFo.out _ ?ha).mono ?_); (case ha => exact E.out.bs (by simp)); rintro e' w1 ⟨rfl, hb⟩; have E1 := Lib.hid (E.out.later hb); clear hb E; have E := E1; clear E1; go_wp2_with fail; (refine hK.out _ _ (E.out.part _ _ (by repeat (first | exact List.Sublist.refl _ | apply List.Sublist.cons_cons | apply List.Sublist.cons)) (by simp)) (fun kS => ?_); clear hK K; (try simp only [Act.put, List.setIfInBounds_toArray, List.set_cons_zero, List.set_cons_succ])))
        (refine takeL (i := 8) (v := _) rfl (by kernel_rfl) (by kernel_rfl) (by kernel_rfl) (fun _ _ _ h => h) (by first | exact Or.inl ⟨by rfl, (by intro u hSu; clear hSu; go_simp; try with_reducible rfl)⟩ | exact Or.inr ⟨by rfl, rfl⟩) kS ?_; (try simp only [Act.put, List.setIfInBounds_toArray, List.set_cons_zero, List.set_cons_succ])); (refine takeL (i := 9) (v := _) rfl (by kernel_rfl) (by kernel_rfl) (by kernel_rfl) (fun _ _ _ h => h) (by first | exact Or.inl ⟨by rfl, (by intro u hSu; clear hSu; go_simp; try with_reducible rfl)⟩ | exact Or.inr ⟨by rfl, rfl⟩) kS ?_; (try simp only [Act.put, List.setIfInBounds_toArray, List.set_cons_zero, List.set_cons_succ]))
        refine callL (i := 10) rfl (by kernel_rfl) (fun K hK => ?_)
        (rw [if_pos (by rfl)]; refine wp_kn_storeq (g := g9) (ys := r) E.out rfl rfl rfl rfl hrl.out (by omega) ?_; clear E kS; intro u E0; have E := Lib.hid E0; clear E0; (refine hK.out _ _ (E.out.part _ _ (by repeat (first | exact List.Sublist.refl _ | apply List.Sublist.cons_cons | apply List.Sublist.cons)) (by simp)) (fun kS => ?_); clear hK K; (try simp only [Act.put, List.setIfInBounds_toArray, List.set_cons_zero, List.set_cons_succ])))
        refine wpAnyH_done (by kernel_rfl) ?_ _
        have hdt := Lib.hid (hd4 (by simp))
        clear hd4 hdc
        go_wp2_with (first
          | ((with_reducible refine kn_load_if (g := g8) (i := 10 + i) E.out rfl rfl rfl hcw.out ?_))
          | ((with_reducible refine kn_load E.out rfl rfl rfl rfl ?_)) | ((with_reducible refine kn_load_if E.out rfl rfl rfl rfl ?_)) | ((with_reducible refine kn_loads E.out rfl rfl rfl ?_ ?_); (focus (first | rfl | (simp only [i64s_length, u8s_length]; first | rfl | assumption | omega)))) | ((with_reducible refine kn_loads_if E.out rfl rfl rfl ?_ ?_); (focus (first | rfl | (simp only [i64s_length, u8s_length]; first | rfl | assumption | omega)))) | ((with_reducible refine kn_stores E.out rfl rfl rfl rfl rfl ?_ ?_ ?_); (focus (first | exact ⟨rfl, rfl⟩ | (simp only [i64s_length, u8s_length]; refine ⟨?_, ?_⟩ <;> first | rfl | assumption | omega))); (focus (first | exact i64s_one _ | exact u8s_one _ | simp [Value.oneCell'])); clear E; intro u E0; have E := Lib.hid E0; clear E0))
        go_roundw
        case rel => exact ⟨i + 1, by omega, by go_num, by rw [hfs.out, hdt.out]; exact E.out.part _ _ (by repeat (first | exact List.Sublist.refl _ | apply List.Sublist.cons_cons | apply List.Sublist.cons)) (fun _ h => h)⟩
        case measure => simp [intOf]; try omega
      · have hi3 : ¬ ((i : Int) < 16) := by omega
        have ei : i = 16 := by omega
        rw [ei] at E
        have hl16 := hFl.out 16
        clear hZb hCw hDl hFl hF0 hFs hlt hi ei
        go_wp2_with (first
          | ((with_reducible refine kn_loads (g := g9) E.out rfl rfl rfl ?hl ?_); (case hl => rw [i64s_length]; exact hl16))
          | ((with_reducible refine kn_stores (g := g4) (vs := i64s (FL 16)) E.out rfl rfl rfl rfl rfl ?hl ?h1 ?_); (case hl => exact ⟨hzz.out, by rw [i64s_length]; exact hl16⟩); (case h1 => exact i64s_one _); clear E; intro u E0; have E := Lib.hid E0; clear E0)
          | ((with_reducible refine kn_load E.out rfl rfl rfl rfl ?_)) | ((with_reducible refine kn_load_if E.out rfl rfl rfl rfl ?_)) | ((with_reducible refine kn_loads E.out rfl rfl rfl ?_ ?_); (focus (first | rfl | (simp only [i64s_length, u8s_length]; first | rfl | assumption | omega)))) | ((with_reducible refine kn_loads_if E.out rfl rfl rfl ?_ ?_); (focus (first | rfl | (simp only [i64s_length, u8s_length]; first | rfl | assumption | omega)))) | ((with_reducible refine kn_stores E.out rfl rfl rfl rfl rfl ?_ ?_ ?_); (focus (first | exact ⟨rfl, rfl⟩ | (simp only [i64s_length, u8s_length]; refine ⟨?_, ?_⟩ <;> first | rfl | assumption | omega))); (focus (first | exact i64s_one _ | exact u8s_one _ | simp [Value.oneCell'])); clear E; intro u E0; have E := Lib.hid E0; clear E0))
        refine bodyPost_ret (results_kn2 E.out rfl _ rfl (by rw [i64s_length]; exact hl16)) rfl ?_
        exact ⟨rfl, E.out.bel⟩
  | true =>
    cases hbt : bt xs true 30 with
    | true =>
      rw [hbt] at hT
      rw [hbt] at hDc hD4
      go_enter Tryd.func9, Tryd.ntmps9
      go_wp2_with (first
        | (go_at_call 11; (with_reducible refine (hK.out _ ?ha).mono ?_); (case ha => exact E.out.bs (by simp)); clear hK; rintro e w2 ⟨rfl, hb⟩; have E1 := Lib.hid (E.out.later hb); clear hb E; have E := E1; clear E1)
        | (go_at_call 27; (with_reducible refine (hT.out _ ?ha).mono ?_); (case ha => exact E.out.bs (by simp)); clear hT; rintro e w2 ⟨rfl, rfl⟩)
        | (go_at_call 28; (with_reducible refine (hP.out _ ?ha).mono ?_); (case ha => exact E.out.bs (by simp)); clear hP; rintro e w2 ⟨rfl, hb⟩; have E1 := Lib.hid (E.out.later hb); clear hb E; have E := E1; clear E1)
        | (go_at_call 29; (with_reducible refine (hPa.out _).mono ?_); clear hPa; rintro e w2 ⟨rfl, hb⟩; have E1 := Lib.hid (E.out.later hb); clear hb E; have E := E1; clear E1)
        | (go_at_call 30; (with_reducible refine (hBa.out _).mono ?_); clear hBa; rintro e w2 ⟨rfl, hb⟩; have E1 := Lib.hid (E.out.later hb); clear hb E; have E := E1; clear E1)
        | ((with_reducible refine kn_bputall (g := g8) E.out rfl rfl rfl rfl rfl ?h1 ?h2 ?_); (case h1 => exact hz24.out); (case h2 => exact hZl.out); clear E; intro u E0; have E := Lib.hid E0; clear E0)
        | ((with_reducible refine kn_ball (g := g8) E.out rfl rfl rfl ?h1 ?_); (case h1 => exact hZl.out))
        | ((with_reducible refine kn_stores (g := g9) (vs := i64s PV) E.out rfl rfl rfl rfl rfl ?hl ?h1 ?_); (case hl => exact ⟨hzz.out, by rw [i64s_length]; exact hpl.out⟩); (case h1 => exact i64s_one _); clear E; intro u E0; have E := Lib.hid E0; clear E0)
        | ((with_reducible refine kn_stores (g := g10) (vs := i64s BA) E.out rfl rfl rfl rfl rfl ?hl ?h1 ?_); (case hl => exact ⟨rfl, by rw [i64s_length]; exact hbl.out⟩); (case h1 => exact i64s_one _); clear E; intro u E0; have E := Lib.hid E0; clear E0)
        | ((with_reducible refine kn_load E.out rfl rfl rfl rfl ?_)) | ((with_reducible refine kn_load_if E.out rfl rfl rfl rfl ?_)) | ((with_reducible refine kn_loads E.out rfl rfl rfl ?_ ?_); (focus (first | rfl | (simp only [i64s_length, u8s_length]; first | rfl | assumption | omega)))) | ((with_reducible refine kn_loads_if E.out rfl rfl rfl ?_ ?_); (focus (first | rfl | (simp only [i64s_length, u8s_length]; first | rfl | assumption | omega)))) | ((with_reducible refine kn_stores E.out rfl rfl rfl rfl rfl ?_ ?_ ?_); (focus (first | exact ⟨rfl, rfl⟩ | (simp only [i64s_length, u8s_length]; refine ⟨?_, ?_⟩ <;> first | rfl | assumption | omega))); (focus (first | exact i64s_one _ | exact u8s_one _ | simp [Value.oneCell'])); clear E; intro u E0; have E := Lib.hid E0; clear E0) | ((with_reducible refine kn_alloc (o := ⟨some 4, _, _, _, _, _⟩) E.out rfl rfl ?_); clear E; intro g4 u E0 hb0; have E := Lib.hid E0; clear E0 hb0) | ((with_reducible refine kn_box (o := ⟨some 4, _, _, _, _, _⟩) E.out rfl rfl rfl ?_); clear E; intro g4 u E0 hb0; have E := Lib.hid E0; clear E0 hb0) | ((with_reducible refine kn_box_int (o := ⟨some 4, _, _, _, _, _⟩) E.out rfl rfl rfl ?_); clear E; intro g4 u E0 hb0; have E := Lib.hid E0; clear E0 hb0) | ((with_reducible refine kn_box_slice (o := ⟨some 4, _, _, _, _, _⟩) E.out rfl rfl rfl ?_); clear E; intro g4 u E0 hb0; have E := Lib.hid E0; clear E0 hb0) | ((with_reducible refine kn_box_bool (o := ⟨some 4, _, _, _, _, _⟩) E.out rfl rfl rfl ?_); clear E; intro g4 u E0 hb0; have E := Lib.hid E0; clear E0 hb0) | ((with_reducible refine kn_box_func (o := ⟨some 4, _, _, _, _, _⟩) E.out rfl rfl rfl ?_); clear E; intro g4 u E0 hb0; have E := Lib.hid E0; clear E0 hb0) | ((with_reducible refine kn_alloc (o := ⟨some 8, _, _, _, _, _⟩) E.out rfl rfl ?_); clear E; intro g8 u E0 hb0; have E := Lib.hid E0; clear E0 hb0) | ((with_reducible refine kn_box (o := ⟨some 8, _, _, _, _, _⟩) E.out rfl rfl rfl ?_); clear E; intro g8 u E0 hb0; have E := Lib.hid E0; clear E0 hb0) | ((with_reducible refine kn_box_int (o := ⟨some 8, _, _, _, _, _⟩) E.out rfl rfl rfl ?_); clear E; intro g8 u E0 hb0; have E := Lib.hid E0; clear E0 hb0) | ((with_reducible refine kn_box_slice (o := ⟨some 8, _, _, _, _, _⟩) E.out rfl rfl rfl ?_); clear E; intro g8 u E0 hb0; have E := Lib.hid E0; clear E0 hb0) | ((with_reducible refine kn_box_bool (o := ⟨some 8, _, _, _, _, _⟩) E.out rfl rfl rfl ?_); clear E; intro g8 u E0 hb0; have E := Lib.hid E0; clear E0 hb0) | ((with_reducible refine kn_box_func (o := ⟨some 8, _, _, _, _, _⟩) E.out rfl rfl rfl ?_); clear E; intro g8 u E0 hb0; have E := Lib.hid E0; clear E0 hb0) | ((with_reducible refine kn_alloc (o := ⟨some 9, _, _, _, _, _⟩) E.out rfl rfl ?_); clear E; intro g9 u E0 hb0; have E := Lib.hid E0; clear E0 hb0) | ((with_reducible refine kn_box (o := ⟨some 9, _, _, _, _, _⟩) E.out rfl rfl rfl ?_); clear E; intro g9 u E0 hb0; have E := Lib.hid E0; clear E0 hb0) | ((with_reducible refine kn_box_int (o := ⟨some 9, _, _, _, _, _⟩) E.out rfl rfl rfl ?_); clear E; intro g9 u E0 hb0; have E := Lib.hid E0; clear E0 hb0) | ((with_reducible refine kn_box_slice (o := ⟨some 9, _, _, _, _, _⟩) E.out rfl rfl rfl ?_); clear E; intro g9 u E0 hb0; have E := Lib.hid E0; clear E0 hb0) | ((with_reducible refine kn_box_bool (o := ⟨some 9, _, _, _, _, _⟩) E.out rfl rfl rfl ?_); clear E; intro g9 u E0 hb0; have E := Lib.hid E0; clear E0 hb0) | ((with_reducible refine kn_box_func (o := ⟨some 9, _, _, _, _, _⟩) E.out rfl rfl rfl ?_); clear E; intro g9 u E0 hb0; have E := Lib.hid E0; clear E0 hb0) | ((with_reducible refine kn_alloc (o := ⟨some 10, _, _, _, _, _⟩) E.out rfl rfl ?_); clear E; intro g10 u E0 hb0; have E := Lib.hid E0; clear E0 hb0) | ((with_reducible refine kn_box (o := ⟨some 10, _, _, _, _, _⟩) E.out rfl rfl rfl ?_); clear E; intro g10 u E0 hb0; have E := Lib.hid E0; clear E0 hb0) | ((with_reducible refine kn_box_int (o := ⟨some 10, _, _, _, _, _⟩) E.out rfl rfl rfl ?_); clear E; intro g10 u E0 hb0; have E := Lib.hid E0; clear E0 hb0) | ((with_reducible refine kn_box_slice (o := ⟨some 10, _, _, _, _, _⟩) E.out rfl rfl rfl ?_); clear E; intro g10 u E0 hb0; have E := Lib.hid E0; clear E0 hb0) | ((with_reducible refine kn_box_bool (o := ⟨some 10, _, _, _, _, _⟩) E.out rfl rfl rfl ?_); clear E; intro g10 u E0 hb0; have E := Lib.hid E0; clear E0 hb0) | ((with_reducible refine kn_box_func (o := ⟨some 10, _, _, _, _, _⟩) E.out rfl rfl rfl ?_); clear E; intro g10 u E0 hb0; have E := Lib.hid E0; clear E0 hb0))
      go_loopw [12] (fun ck wr => ∃ i : Nat, i ≤ 16 ∧ ck = .int .i64 (i : Int) ∧ Hid (Kn w [.row g10 51 (i64s BA), .row g9 27 (i64s (FL i)), .row g8 65 (blk d f Z), .row g4 27 (i64s z64)] [bsF A 8 xs] wr)) (fun ck _ => 16 - (intOf ck).toNat)
      case atStart => exact ⟨0, by omega, rfl, by rw [hF0.out]; exact E.out.part _ _ (by repeat (first | exact List.Sublist.refl _ | apply List.Sublist.cons_cons | apply List.Sublist.cons)) (by simp)⟩
      case round =>
        clear E
        obtain ⟨i, hi, rfl, E⟩ := hrel
        have hl := hFl.out i
        by_cases hlt : i < 16
        · have hi3 : (i : Int) < 16 := by omega
          have hi8 : (8 : Int) + i < 24 := by omega
          have hzb := hZb.out i hlt
          have hcw := Lib.hid (hCw.out i hlt)
          have hdl := Lib.hid (hDl.out i hlt)
          have hfs := Lib.hid (hFs.out i)
          have hd4 := hD4.out i
          have hdc := hDc.out i
          obtain ⟨v, hv⟩ : ∃ v : Nat, Z.getD (8 + i) 0 = (v : Int) := ⟨(Z.getD (8 + i) 0).toNat, by omega⟩
          rw [hv] at hcw hzb hd4 hdc
          have hv4 : v < 4 := by omega
          have hv42 : (v : Int) < 4 := by omega
          obtain ⟨O, hO⟩ : ∃ z, FL i = z := ⟨_, rfl⟩
          rw [hO] at hfs hl E
          rw [Int.toNat_natCast] at hd4
          have hrl : ((FR.drop (v * 4)).take 4).length = 4 := by rw [List.length_take, List.length_drop]; omega
          have hix := run_index_agg (P := Tryd.prog) 69 25 4 4 Tryd.underlying69 Tryd.underlying25 rfl (by kernel_rfl) FR v hv4 hfl
          clear hZb hCw hDl hFl hF0 hFs hD4 hDc hO
          generalize DT i = dt at *
          obtain ⟨r, hr⟩ : ∃ z, (FR.drop (v * 4)).take 4 = z := ⟨_, rfl⟩
          rw [hr] at hix hrl hd4
          replace hrl := Lib.hid hrl
          go_wp2_with (first | ((with_reducible refine kn_load E.out rfl rfl rfl rfl ?_)) | ((with_reducible refine kn_load_if E.out rfl rfl rfl rfl ?_)) | ((with_reducible refine kn_loads E.out rfl rfl rfl ?_ ?_); (focus (first | rfl | (simp only [i64s_length, u8s_length]; first | rfl | assumption | omega)))) | ((with_reducible refine kn_loads_if E.out rfl rfl rfl ?_ ?_); (focus (first | rfl | (simp only [i64s_length, u8s_length]; first | rfl | assumption | omega)))) | ((with_reducible refine kn_stores E.out rfl rfl rfl rfl rfl ?_ ?_ ?_); (focus (first | exact ⟨rfl, rfl⟩ | (simp only [i64s_length, u8s_length]; refine ⟨?_, ?_⟩ <;> first | rfl | assumption | omega))); (focus (first | exact i64s_one _ | exact u8s_one _ | simp [Value.oneCell'])); clear E; intro u E0; have E := Lib.hid E0; clear E0))
          refine wp_region_held_drew (S := Kn w [.row g8 65 (blk d f Z)] [bsF A 8 xs]) (by kernel_rfl) (E.out.drew.part _ _ (by repeat (first | exact List.Sublist.refl _ | apply List.Sublist.cons_cons | apply List.Sublist.cons)) (by simp)) (fun kS => ?_)
          have E1 := Lib.hid E.out.drew
          generalize World.drew _ = u1 at kS E1 ⊢
          clear E
          have E := E1
          clear E1
          (refine takeL (i := 0) (v := _) rfl (by kernel_rfl) (by kernel_rfl) (by kernel_rfl) (fun _ _ _ h => h) (by first | exact Or.inl ⟨by rfl, (by intro u hSu; clear hSu; go_simp; try with_reducible rfl)⟩ | exact Or.inr ⟨by rfl, rfl⟩) kS ?_; (try simp only [Act.put, List.setIfInBounds_toArray, List.set_cons_zero, List.set_cons_succ])); (refine takeL (i := 1) (v := _) rfl (by kernel_rfl) (by kernel_rfl) (by kernel_rfl) (fun _ _ _ h => h) (by first | exact Or.inl ⟨by rfl, (by intro u hSu; clear hSu; go_simp; try with_reducible rfl)⟩ | exact Or.inr ⟨by rfl, rfl⟩) kS ?_; (try simp only [Act.put, List.setIfInBounds_toArray, List.set_cons_zero, List.set_cons_succ])); (refine takeL (i := 2) (v := _) rfl (by kernel_rfl) (by kernel_rfl) (by kernel_rfl) (fun _ _ _ h => h) (by first | exact Or.inl ⟨by rfl, (by intro u hSu; clear hSu; go_simp; try with_reducible rfl)⟩ | exact Or.inr ⟨by rfl, rfl⟩) kS ?_; (try simp only [Act.put, List.setIfInBounds_toArray, List.set_cons_zero, List.set_cons_succ])); (refine takeL (i := 4) (v := _) rfl (by kernel_rfl) (by kernel_rfl) (by kernel_rfl) (fun _ _ _ h => h) (by first | exact Or.inl ⟨by rfl, (by intro u hSu; clear hSu; go_simp; try with_reducible rfl)⟩ | exact Or.inr ⟨by rfl, rfl⟩) kS ?_; (try simp only [Act.put, List.setIfInBounds_toArray, List.set_cons_zero, List.set_cons_succ])); (refine takeL (i := 5) (v := _) rfl (by kernel_rfl) (by kernel_rfl) (by kernel_rfl) (fun _ _ _ h => h) (by first | exact Or.inl ⟨by rfl, (by intro u hSu; clear hSu; go_simp; try with_reducible rfl)⟩ | exact Or.inr ⟨by rfl, rfl⟩) kS ?_; (try simp only [Act.put, List.setIfInBounds_toArray, List.set_cons_zero, List.set_cons_succ])); (refine takeL (i := 6) (v := _) rfl (by kernel_rfl) (by kernel_rfl) (by kernel_rfl) (fun _ _ _ h => h) (by first | exact Or.inl ⟨by rfl, (by intro u hSu; clear hSu; go_simp; try with_reducible rfl)⟩ | exact Or.inr ⟨by rfl, rfl⟩) kS ?_; (try simp only [Act.put, List.setIfInBounds_toArray, List.set_cons_zero, List.set_cons_succ]))
          (refine takeL (i := 7) (v := _) rfl (by kernel_rfl) (by kernel_rfl) (by kernel_rfl) (fun _ _ _ h => h) (yield_load (g := g8) (i := 10 + i) rfl rfl rfl hcw.out) kS ?_; (try simp only [Act.put, List.setIfInBounds_toArray, List.set_cons_zero, List.set_cons_succ]))
          refine callL (i := 3) rfl (by kernel_rfl) (fun K hK => ?_)
          (rw [if_pos (by rfl)]; go_simp; (with_reducible refine (hFo.out _ ?ha).mono ?_); (case ha => exact E.out.bs (by simp)); rintro e' w1 ⟨rfl, hb⟩; have E1 := Lib.hid (E.out.later hb); clear hb E; have E := E1; clear E1; go_wp2_with fail; (refine hK.out _ _ (E.out.part _ _ (by repeat (first | exact List.Sublist.refl _ | apply List.Sublist.cons_cons | apply List.Sublist.cons)) (by simp)) (fun kS => ?_); clear hK K; (try simp only [Act.put, List.setIfInBounds_toArray, List.set_cons_zero, List.set_cons_succ])))
          (refine takeL (i := 8) (v := _) rfl (by kernel_rfl) (by kernel_rfl) (by kernel_rfl) (fun _ _ _ h => h) (by first | exact Or.inl ⟨by rfl, (by intro u hSu; clear hSu; go_simp; try with_reducible rfl)⟩ | exact Or.inr ⟨by rfl, rfl⟩) kS ?_; (try simp only [Act.put, List.setIfInBounds_toArray, List.set_cons_zero, List.set_cons_succ])); (refine takeL (i := 9) (v := _) rfl (by kernel_rfl) (by kernel_rfl) (by kernel_rfl) (fun _ _ _ h => h) (by first | exact Or.inl ⟨by rfl, (by intro u hSu; clear hSu; go_simp; try with_reducible rfl)⟩ | exact Or.inr ⟨by rfl, rfl⟩) kS ?_; (try simp only [Act.put, List.setIfInBounds_toArray, List.set_cons_zero, List.set_cons_succ]))
          refine callL (i := 10) rfl (by kernel_rfl) (fun K hK => ?_)
          (rw [if_pos (by rfl)]; refine wp_kn_storeq (g := g9) (ys := r) E.out rfl rfl rfl rfl hrl.out (by omega) ?_; clear E kS; intro u E0; have E := Lib.hid E0; clear E0; (refine hK.out _ _ (E.out.part _ _ (by repeat (first | exact List.Sublist.refl _ | apply List.Sublist.cons_cons | apply List.Sublist.cons)) (by simp)) (fun kS => ?_); clear hK K; (try simp only [Act.put, List.setIfInBounds_toArray, List.set_cons_zero, List.set_cons_succ])))
          refine wpAnyH_done (by kernel_rfl) ?_ _
          have hdt := Lib.hid (hd4 (by simp))
          clear hd4 hdc
          go_wp2_with (first
            | ((with_reducible refine kn_load_if (g := g8) (i := 10 + i) E.out rfl rfl rfl hcw.out ?_))
            | ((with_reducible refine kn_load E.out rfl rfl rfl rfl ?_)) | ((with_reducible refine kn_load_if E.out rfl rfl rfl rfl ?_)) | ((with_reducible refine kn_loads E.out rfl rfl rfl ?_ ?_); (focus (first | rfl | (simp only [i64s_length, u8s_length]; first | rfl | assumption | omega)))) | ((with_reducible refine kn_loads_if E.out rfl rfl rfl ?_ ?_); (focus (first | rfl | (simp only [i64s_length, u8s_length]; first | rfl | assumption | omega)))) | ((with_reducible refine kn_stores E.out rfl rfl rfl rfl rfl ?_ ?_ ?_); (focus (first | exact ⟨rfl, rfl⟩ | (simp only [i64s_length, u8s_length]; refine ⟨?_, ?_⟩ <;> first | rfl | assumption | omega))); (focus (first | exact i64s_one _ | exact u8s_one _ | simp [Value.oneCell'])); clear E; intro u E0; have E := Lib.hid E0; clear E0))
          go_roundw
          case rel => exact ⟨i + 1, by omega, by go_num, by rw [hfs.out, hdt.out]; exact E.out.part _ _ (by repeat (first | exact List.Sublist.refl _ | apply List.Sublist.cons_cons | apply List.Sublist.cons)) (fun _ h => h)⟩
          case measure => simp [intOf]; try omega
        · have hi3 : ¬ ((i : Int) < 16) := by omega
          have ei : i = 16 := by omega
          rw [ei] at E
          have hl16 := hFl.out 16
          clear hZb hCw hDl hFl hF0 hFs hlt hi ei
          go_wp2_with (first
            | ((with_reducible refine kn_loads (g := g9) E.out rfl rfl rfl ?hl ?_); (case hl => rw [i64s_length]; exact hl16))
            | ((with_reducible refine kn_stores (g := g4) (vs := i64s (FL 16)) E.out rfl rfl rfl rfl rfl ?hl ?h1 ?_); (case hl => exact ⟨hzz.out, by rw [i64s_length]; exact hl16⟩); (case h1 => exact i64s_one _); clear E; intro u E0; have E := Lib.hid E0; clear E0)
            | ((with_reducible refine kn_load E.out rfl rfl rfl rfl ?_)) | ((with_reducible refine kn_load_if E.out rfl rfl rfl rfl ?_)) | ((with_reducible refine kn_loads E.out rfl rfl rfl ?_ ?_); (focus (first | rfl | (simp only [i64s_length, u8s_length]; first | rfl | assumption | omega)))) | ((with_reducible refine kn_loads_if E.out rfl rfl rfl ?_ ?_); (focus (first | rfl | (simp only [i64s_length, u8s_length]; first | rfl | assumption | omega)))) | ((with_reducible refine kn_stores E.out rfl rfl rfl rfl rfl ?_ ?_ ?_); (focus (first | exact ⟨rfl, rfl⟩ | (simp only [i64s_length, u8s_length]; refine ⟨?_, ?_⟩ <;> first | rfl | assumption | omega))); (focus (first | exact i64s_one _ | exact u8s_one _ | simp [Value.oneCell'])); clear E; intro u E0; have E := Lib.hid E0; clear E0))
          refine bodyPost_ret (results_kn2 E.out rfl _ rfl (by rw [i64s_length]; exact hl16)) rfl ?_
          exact ⟨rfl, E.out.bel⟩
    | false =>
      rw [hbt] at hT
      rw [hbt] at hDc hD4
      go_enter Tryd.func9, Tryd.ntmps9
      go_wp2_with (first
        | (go_at_call 11; (with_reducible refine (hK.out _ ?ha).mono ?_); (case ha => exact E.out.bs (by simp)); clear hK; rintro e w2 ⟨rfl, hb⟩; have E1 := Lib.hid (E.out.later hb); clear hb E; have E := E1; clear E1)
        | (go_at_call 27; (with_reducible refine (hT.out _ ?ha).mono ?_); (case ha => exact E.out.bs (by simp)); clear hT; rintro e w2 ⟨rfl, rfl⟩)
        | (go_at_call 28; (with_reducible refine (hP.out _ ?ha).mono ?_); (case ha => exact E.out.bs (by simp)); clear hP; rintro e w2 ⟨rfl, hb⟩; have E1 := Lib.hid (E.out.later hb); clear hb E; have E := E1; clear E1)
        | (go_at_call 29; (with_reducible refine (hPa.out _).mono ?_); clear hPa; rintro e w2 ⟨rfl, hb⟩; have E1 := Lib.hid (E.out.later hb); clear hb E; have E := E1; clear E1)
        | (go_at_call 30; (with_reducible refine (hBa.out _).mono ?_); clear hBa; rintro e w2 ⟨rfl, hb⟩; have E1 := Lib.hid (E.out.later hb); clear hb E; have E := E1; clear E1)
        | ((with_reducible refine kn_bputall (g := g8) E.out rfl rfl rfl rfl rfl ?h1 ?h2 ?_); (case h1 => exact hz24.out); (case h2 => exact hZl.out); clear E; intro u E0; have E := Lib.hid E0; clear E0)
        | ((with_reducible refine kn_ball (g := g8) E.out rfl rfl rfl ?h1 ?_); (case h1 => exact hZl.out))
        | ((with_reducible refine kn_stores (g := g9) (vs := i64s PV) E.out rfl rfl rfl rfl rfl ?hl ?h1 ?_); (case hl => exact ⟨hzz.out, by rw [i64s_length]; exact hpl.out⟩); (case h1 => exact i64s_one _); clear E; intro u E0; have E := Lib.hid E0; clear E0)
        | ((with_reducible refine kn_stores (g := g10) (vs := i64s BA) E.out rfl rfl rfl rfl rfl ?hl ?h1 ?_); (case hl => exact ⟨rfl, by rw [i64s_length]; exact hbl.out⟩); (case h1 => exact i64s_one _); clear E; intro u E0; have E := Lib.hid E0; clear E0)
        | ((with_reducible refine kn_load E.out rfl rfl rfl rfl ?_)) | ((with_reducible refine kn_load_if E.out rfl rfl rfl rfl ?_)) | ((with_reducible refine kn_loads E.out rfl rfl rfl ?_ ?_); (focus (first | rfl | (simp only [i64s_length, u8s_length]; first | rfl | assumption | omega)))) | ((with_reducible refine kn_loads_if E.out rfl rfl rfl ?_ ?_); (focus (first | rfl | (simp only [i64s_length, u8s_length]; first | rfl | assumption | omega)))) | ((with_reducible refine kn_stores E.out rfl rfl rfl rfl rfl ?_ ?_ ?_); (focus (first | exact ⟨rfl, rfl⟩ | (simp only [i64s_length, u8s_length]; refine ⟨?_, ?_⟩ <;> first | rfl | assumption | omega))); (focus (first | exact i64s_one _ | exact u8s_one _ | simp [Value.oneCell'])); clear E; intro u E0; have E := Lib.hid E0; clear E0) | ((with_reducible refine kn_alloc (o := ⟨some 4, _, _, _, _, _⟩) E.out rfl rfl ?_); clear E; intro g4 u E0 hb0; have E := Lib.hid E0; clear E0 hb0) | ((with_reducible refine kn_box (o := ⟨some 4, _, _, _, _, _⟩) E.out rfl rfl rfl ?_); clear E; intro g4 u E0 hb0; have E := Lib.hid E0; clear E0 hb0) | ((with_reducible refine kn_box_int (o := ⟨some 4, _, _, _, _, _⟩) E.out rfl rfl rfl ?_); clear E; intro g4 u E0 hb0; have E := Lib.hid E0; clear E0 hb0) | ((with_reducible refine kn_box_slice (o := ⟨some 4, _, _, _, _, _⟩) E.out rfl rfl rfl ?_); clear E; intro g4 u E0 hb0; have E := Lib.hid E0; clear E0 hb0) | ((with_reducible refine kn_box_bool (o := ⟨some 4, _, _, _, _, _⟩) E.out rfl rfl rfl ?_); clear E; intro g4 u E0 hb0; have E := Lib.hid E0; clear E0 hb0) | ((with_reducible refine kn_box_func (o := ⟨some 4, _, _, _, _, _⟩) E.out rfl rfl rfl ?_); clear E; intro g4 u E0 hb0; have E := Lib.hid E0; clear E0 hb0) | ((with_reducible refine kn_alloc (o := ⟨some 8, _, _, _, _, _⟩) E.out rfl rfl ?_); clear E; intro g8 u E0 hb0; have E := Lib.hid E0; clear E0 hb0) | ((with_reducible refine kn_box (o := ⟨some 8, _, _, _, _, _⟩) E.out rfl rfl rfl ?_); clear E; intro g8 u E0 hb0; have E := Lib.hid E0; clear E0 hb0) | ((with_reducible refine kn_box_int (o := ⟨some 8, _, _, _, _, _⟩) E.out rfl rfl rfl ?_); clear E; intro g8 u E0 hb0; have E := Lib.hid E0; clear E0 hb0) | ((with_reducible refine kn_box_slice (o := ⟨some 8, _, _, _, _, _⟩) E.out rfl rfl rfl ?_); clear E; intro g8 u E0 hb0; have E := Lib.hid E0; clear E0 hb0) | ((with_reducible refine kn_box_bool (o := ⟨some 8, _, _, _, _, _⟩) E.out rfl rfl rfl ?_); clear E; intro g8 u E0 hb0; have E := Lib.hid E0; clear E0 hb0) | ((with_reducible refine kn_box_func (o := ⟨some 8, _, _, _, _, _⟩) E.out rfl rfl rfl ?_); clear E; intro g8 u E0 hb0; have E := Lib.hid E0; clear E0 hb0) | ((with_reducible refine kn_alloc (o := ⟨some 9, _, _, _, _, _⟩) E.out rfl rfl ?_); clear E; intro g9 u E0 hb0; have E := Lib.hid E0; clear E0 hb0) | ((with_reducible refine kn_box (o := ⟨some 9, _, _, _, _, _⟩) E.out rfl rfl rfl ?_); clear E; intro g9 u E0 hb0; have E := Lib.hid E0; clear E0 hb0) | ((with_reducible refine kn_box_int (o := ⟨some 9, _, _, _, _, _⟩) E.out rfl rfl rfl ?_); clear E; intro g9 u E0 hb0; have E := Lib.hid E0; clear E0 hb0) | ((with_reducible refine kn_box_slice (o := ⟨some 9, _, _, _, _, _⟩) E.out rfl rfl rfl ?_); clear E; intro g9 u E0 hb0; have E := Lib.hid E0; clear E0 hb0) | ((with_reducible refine kn_box_bool (o := ⟨some 9, _, _, _, _, _⟩) E.out rfl rfl rfl ?_); clear E; intro g9 u E0 hb0; have E := Lib.hid E0; clear E0 hb0) | ((with_reducible refine kn_box_func (o := ⟨some 9, _, _, _, _, _⟩) E.out rfl rfl rfl ?_); clear E; intro g9 u E0 hb0; have E := Lib.hid E0; clear E0 hb0) | ((with_reducible refine kn_alloc (o := ⟨some 10, _, _, _, _, _⟩) E.out rfl rfl ?_); clear E; intro g10 u E0 hb0; have E := Lib.hid E0; clear E0 hb0) | ((with_reducible refine kn_box (o := ⟨some 10, _, _, _, _, _⟩) E.out rfl rfl rfl ?_); clear E; intro g10 u E0 hb0; have E := Lib.hid E0; clear E0 hb0) | ((with_reducible refine kn_box_int (o := ⟨some 10, _, _, _, _, _⟩) E.out rfl rfl rfl ?_); clear E; intro g10 u E0 hb0; have E := Lib.hid E0; clear E0 hb0) | ((with_reducible refine kn_box_slice (o := ⟨some 10, _, _, _, _, _⟩) E.out rfl rfl rfl ?_); clear E; intro g10 u E0 hb0; have E := Lib.hid E0; clear E0 hb0) | ((with_reducible refine kn_box_bool (o := ⟨some 10, _, _, _, _, _⟩) E.out rfl rfl rfl ?_); clear E; intro g10 u E0 hb0; have E := Lib.hid E0; clear E0 hb0) | ((with_reducible refine kn_box_func (o := ⟨some 10, _, _, _, _, _⟩) E.out rfl rfl rfl ?_); clear E; intro g10 u E0 hb0; have E := Lib.hid E0; clear E0 hb0))
      go_loopw [12] (fun ck wr => ∃ i : Nat, i ≤ 16 ∧ ck = .int .i64 (i : Int) ∧ Hid (Kn w [.row g10 51 (i64s BA), .row g9 27 (i64s (FL i)), .row g8 65 (blk d f Z), .row g4 27 (i64s z64)] [bsF A 8 xs] wr)) (fun ck _ => 16 - (intOf ck).toNat)
      case atStart => exact ⟨0, by omega, rfl, by rw [hF0.out]; exact E.out.part _ _ (by repeat (first | exact List.Sublist.refl _ | apply List.Sublist.cons_cons | apply List.Sublist.cons)) (by simp)⟩
      case round =>
        clear E
        obtain ⟨i, hi, rfl, E⟩ := hrel
        have hl := hFl.out i
        by_cases hlt : i < 16
        · have hi3 : (i : Int) < 16 := by omega
          have hi8 : (8 : Int) + i < 24 := by omega
          have hzb := hZb.out i hlt
          have hcw := Lib.hid (hCw.out i hlt)
          have hdl := Lib.hid (hDl.out i hlt)
          have hfs := Lib.hid (hFs.out i)
          have hd4 := hD4.out i
          have hdc := hDc.out i
          obtain ⟨v, hv⟩ : ∃ v : Nat, Z.getD (8 + i) 0 = (v : Int) := ⟨(Z.getD (8 + i) 0).toNat, by omega⟩
          rw [hv] at hcw hzb hd4 hdc
          have hv4 : v < 4 := by omega
          have hv42 : (v : Int) < 4 := by omega
          obtain ⟨O, hO⟩ : ∃ z, FL i = z := ⟨_, rfl⟩
          rw [hO] at hfs hl E
          rw [Int.toNat_natCast] at hd4
          have hrl : ((FR.drop (v * 4)).take 4).length = 4 := by rw [List.length_take, List.length_drop]; omega
          have hix := run_index_agg (P := Tryd.prog) 69 25 4 4 Tryd.underlying69 Tryd.underlying25 rfl (by kernel_rfl) FR v hv4 hfl
          clear hZb hCw hDl hFl hF0 hFs hD4 hDc hO
          generalize DT i = dt at *
          obtain ⟨r, hr⟩ : ∃ z, (FR.drop (v * 4)).take 4 = z := ⟨_, rfl⟩
          rw [hr] at hix hrl hd4
          replace hrl := Lib.hid hrl
          go_wp2_with (first | ((with_reducible refine kn_load E.out rfl rfl rfl rfl ?_)) | ((with_reducible refine kn_load_if E.out rfl rfl rfl rfl ?_)) | ((with_reducible refine kn_loads E.out rfl rfl rfl ?_ ?_); (focus (first | rfl | (simp only [i64s_length, u8s_length]; first | rfl | assumption | omega)))) | ((with_reducible refine kn_loads_if E.out rfl rfl rfl ?_ ?_); (focus (first | rfl | (simp only [i64s_length, u8s_length]; first | rfl | assumption | omega)))) | ((with_reducible refine kn_stores E.out rfl rfl rfl rfl rfl ?_ ?_ ?_); (focus (first | exact ⟨rfl, rfl⟩ | (simp only [i64s_length, u8s_length]; refine ⟨?_, ?_⟩ <;> first | rfl | assumption | omega))); (focus (first | exact i64s_one _ | exact u8s_one _ | simp [Value.oneCell'])); clear E; intro u E0; have E := Lib.hid E0; clear E0))
          refine wp_region_held_drew (S := Kn w [.row g8 65 (blk d f Z)] [bsF A 8 xs]) (by kernel_rfl) (E.out.drew.part _ _ (by repeat (first | exact List.Sublist.refl _ | apply List.Sublist.cons_cons | apply List.Sublist.cons)) (by simp)) (fun kS => ?_)
          have E1 := Lib.hid E.out.drew
          generalize World.drew _ = u1 at kS E1 ⊢
          clear E
          have E := E1
          clear E1
          (refine takeL (i := 0) (v := _) rfl (by kernel_rfl) (by kernel_rfl) (by kernel_rfl) (fun _ _ _ h => h) (by first | exact Or.inl ⟨by rfl, (by intro u hSu; clear hSu; go_simp; try with_reducible rfl)⟩ | exact Or.inr ⟨by rfl, rfl⟩) kS ?_; (try simp only [Act.put, List.setIfInBounds_toArray, List.set_cons_zero, List.set_cons_succ])); (refine takeL (i := 1) (v := _) rfl (by kernel_rfl) (by kernel_rfl) (by kernel_rfl) (fun _ _ _ h => h) (by first | exact Or.inl ⟨by rfl, (by intro u hSu; clear hSu; go_simp; try with_reducible rfl)⟩ | exact Or.inr ⟨by rfl, rfl⟩) kS ?_; (try simp only [Act.put, List.setIfInBounds_toArray, List.set_cons_zero, List.set_cons_succ])); (refine takeL (i := 2) (v := _) rfl (by kernel_rfl) (by kernel_rfl) (by kernel_rfl) (fun _ _ _ h => h) (by first | exact Or.inl ⟨by rfl, (by intro u hSu; clear hSu; go_simp; try with_reducible rfl)⟩ | exact Or.inr ⟨by rfl, rfl⟩) kS ?_; (try simp only [Act.put, List.setIfInBounds_toArray, List.set_cons_zero, List.set_cons_succ])); (refine takeL (i := 4) (v := _) rfl (by kernel_rfl) (by kernel_rfl) (by kernel_rfl) (fun _ _ _ h => h) (by first | exact Or.inl ⟨by rfl, (by intro u hSu; clear hSu; go_simp; try with_reducible rfl)⟩ | exact Or.inr ⟨by rfl, rfl⟩) kS ?_; (try simp only [Act.put, List.setIfInBounds_toArray, List.set_cons_zero, List.set_cons_succ])); (refine takeL (i := 5) (v := _) rfl (by kernel_rfl) (by kernel_rfl) (by kernel_rfl) (fun _ _ _ h => h) (by first | exact Or.inl ⟨by rfl, (by intro u hSu; clear hSu; go_simp; try with_reducible rfl)⟩ | exact Or.inr ⟨by rfl, rfl⟩) kS ?_; (try simp only [Act.put, List.setIfInBounds_toArray, List.set_cons_zero, List.set_cons_succ])); (refine takeL (i := 6) (v := _) rfl (by kernel_rfl) (by kernel_rfl) (by kernel_rfl) (fun _ _ _ h => h) (by first | exact Or.inl ⟨by rfl, (by intro u hSu; clear hSu; go_simp; try with_reducible rfl)⟩ | exact Or.inr ⟨by rfl, rfl⟩) kS ?_; (try simp only [Act.put, List.setIfInBounds_toArray, List.set_cons_zero, List.set_cons_succ]))
          (refine takeL (i := 7) (v := _) rfl (by kernel_rfl) (by kernel_rfl) (by kernel_rfl) (fun _ _ _ h => h) (yield_load (g := g8) (i := 10 + i) rfl rfl rfl hcw.out) kS ?_; (try simp only [Act.put, List.setIfInBounds_toArray, List.set_cons_zero, List.set_cons_succ]))
          refine callL (i := 3) rfl (by kernel_rfl) (fun K hK => ?_)
          (rw [if_pos (by rfl)]; go_simp; (with_reducible refine (hFo.out _ ?ha).mono ?_); (case ha => exact E.out.bs (by simp)); rintro e' w1 ⟨rfl, hb⟩; have E1 := Lib.hid (E.out.later hb); clear hb E; have E := E1; clear E1; go_wp2_with fail; (refine hK.out _ _ (E.out.part _ _ (by repeat (first | exact List.Sublist.refl _ | apply List.Sublist.cons_cons | apply List.Sublist.cons)) (by simp)) (fun kS => ?_); clear hK K; (try simp only [Act.put, List.setIfInBounds_toArray, List.set_cons_zero, List.set_cons_succ])))
          (refine takeL (i := 8) (v := _) rfl (by kernel_rfl) (by kernel_rfl) (by kernel_rfl) (fun _ _ _ h => h) (by first | exact Or.inl ⟨by rfl, (by intro u hSu; clear hSu; go_simp; try with_reducible rfl)⟩ | exact Or.inr ⟨by rfl, rfl⟩) kS ?_; (try simp only [Act.put, List.setIfInBounds_toArray, List.set_cons_zero, List.set_cons_succ])); (refine takeL (i := 9) (v := _) rfl (by kernel_rfl) (by kernel_rfl) (by kernel_rfl) (fun _ _ _ h => h) (by first | exact Or.inl ⟨by rfl, (by intro u hSu; clear hSu; go_simp; try with_reducible rfl)⟩ | exact Or.inr ⟨by rfl, rfl⟩) kS ?_; (try simp only [Act.put, List.setIfInBounds_toArray, List.set_cons_zero, List.set_cons_succ]))
          refine callL (i := 10) rfl (by kernel_rfl) (fun K hK => ?_)
          (rw [if_pos (by rfl)]; refine wp_kn_storeq (g := g9) (ys := r) E.out rfl rfl rfl rfl hrl.out (by omega) ?_; clear E kS; intro u E0; have E := Lib.hid E0; clear E0; (refine hK.out _ _ (E.out.part _ _ (by repeat (first | exact List.Sublist.refl _ | apply List.Sublist.cons_cons | apply List.Sublist.cons)) (by simp)) (fun kS => ?_); clear hK K; (try simp only [Act.put, List.setIfInBounds_toArray, List.set_cons_zero, List.set_cons_succ])))
          refine wpAnyH_done (by kernel_rfl) ?_ _
          by_cases hq : v = 2
          · have hdt := Lib.hid (hdc rfl (by omega))
            have hqb : ((v : Int) == 2) = true := by simp; omega
            clear hd4 hdc
            have hq0 : ((v : Int) == 0) = false := by simp; omega
            have ho4 : i * 4 + 4 ≤ (spl O (i * 4) r).length := by rw [spl_length]; omega
            go_wp2_with (first
              | ((with_reducible refine kn_load_if (g := g8) (i := 10 + i) E.out rfl rfl rfl hcw.out ?_))
              | ((with_reducible refine kn_storep (g := g9) (off := i * 4) (ys := [0, 0, 0, 0]) E.out rfl rfl rfl rfl ?hy ?hl ?hm ?_); (case hy => rfl); (case hl => rfl); (case hm => exact ho4); clear E; intro u E0; have E := Lib.hid E0; clear E0)
              | ((with_reducible refine kn_load E.out rfl rfl rfl rfl ?_)) | ((with_reducible refine kn_load_if E.out rfl rfl rfl rfl ?_)) | ((with_reducible refine kn_loads E.out rfl rfl rfl ?_ ?_); (focus (first | rfl | (simp only [i64s_length, u8s_length]; first | rfl | assumption | omega)))) | ((with_reducible refine kn_loads_if E.out rfl rfl rfl ?_ ?_); (focus (first | rfl | (simp only [i64s_length, u8s_length]; first | rfl | assumption | omega)))) | ((with_reducible refine kn_stores E.out rfl rfl rfl rfl rfl ?_ ?_ ?_); (focus (first | exact ⟨rfl, rfl⟩ | (simp only [i64s_length, u8s_length]; refine ⟨?_, ?_⟩ <;> first | rfl | assumption | omega))); (focus (first | exact i64s_one _ | exact u8s_one _ | simp [Value.oneCell'])); clear E; intro u E0; have E := Lib.hid E0; clear E0))
            rw [spl_twice O r [0, 0, 0, 0] (i * 4) hrl.out rfl (by omega)] at E
            go_roundw
            case rel => exact ⟨i + 1, by omega, by go_num, by rw [hfs.out, hdt.out]; exact E.out.part _ _ (by repeat (first | exact List.Sublist.refl _ | apply List.Sublist.cons_cons | apply List.Sublist.cons)) (fun _ h => h)⟩
            case measure => simp [intOf]; try omega
          · have hdt := Lib.hid (hd4 (fun hh => hq (by omega)))
            have hqb : ((v : Int) == 2) = false := by simp; omega
            clear hd4 hdc
            go_wp2_with (first
              | ((with_reducible refine kn_load_if (g := g8) (i := 10 + i) E.out rfl rfl rfl hcw.out ?_))
              | ((with_reducible refine kn_load E.out rfl rfl rfl rfl ?_)) | ((with_reducible refine kn_load_if E.out rfl rfl rfl rfl ?_)) | ((with_reducible refine kn_loads E.out rfl rfl rfl ?_ ?_); (focus (first | rfl | (simp only [i64s_length, u8s_length]; first | rfl | assumption | omega)))) | ((with_reducible refine kn_loads_if E.out rfl rfl rfl ?_ ?_); (focus (first | rfl | (simp only [i64s_length, u8s_length]; first | rfl | assumption | omega)))) | ((with_reducible refine kn_stores E.out rfl rfl rfl rfl rfl ?_ ?_ ?_); (focus (first | exact ⟨rfl, rfl⟩ | (simp only [i64s_length, u8s_length]; refine ⟨?_, ?_⟩ <;> first | rfl | assumption | omega))); (focus (first | exact i64s_one _ | exact u8s_one _ | simp [Value.oneCell'])); clear E; intro u E0; have E := Lib.hid E0; clear E0))
            go_roundw
            case rel => exact ⟨i + 1, by omega, by go_num, by rw [hfs.out, hdt.out]; exact E.out.part _ _ (by repeat (first | exact List.Sublist.refl _ | apply List.Sublist.cons_cons | apply List.Sublist.cons)) (fun _ h => h)⟩
            case measure => simp [intOf]; try omega
        · have hi3 : ¬ ((i : Int) < 16) := by omega
          have ei : i = 16 := by omega
          rw [ei] at E
          have hl16 := hFl.out 16
          clear hZb hCw hDl hFl hF0 hFs hlt hi ei
          go_wp2_with (first
            | ((with_reducible refine kn_loads (g := g9) E.out rfl rfl rfl ?hl ?_); (case hl => rw [i64s_length]; exact hl16))
            | ((with_reducible refine kn_stores (g := g4) (vs := i64s (FL 16)) E.out rfl rfl rfl rfl rfl ?hl ?h1 ?_); (case hl => exact ⟨hzz.out, by rw [i64s_length]; exact hl16⟩); (case h1 => exact i64s_one _); clear E; intro u E0; have E := Lib.hid E0; clear E0)
            | ((with_reducible refine kn_load E.out rfl rfl rfl rfl ?_)) | ((with_reducible refine kn_load_if E.out rfl rfl rfl rfl ?_)) | ((with_reducible refine kn_loads E.out rfl rfl rfl ?_ ?_); (focus (first | rfl | (simp only [i64s_length, u8s_length]; first | rfl | assumption | omega)))) | ((with_reducible refine kn_loads_if E.out rfl rfl rfl ?_ ?_); (focus (first | rfl | (simp only [i64s_length, u8s_length]; first | rfl | assumption | omega)))) | ((with_reducible refine kn_stores E.out rfl rfl rfl rfl rfl ?_ ?_ ?_); (focus (first | exact ⟨rfl, rfl⟩ | (simp only [i64s_length, u8s_length]; refine ⟨?_, ?_⟩ <;> first | rfl | assumption | omega))); (focus (first | exact i64s_one _ | exact u8s_one _ | simp [Value.oneCell'])); clear E; intro u E0; have E := Lib.hid E0; clear E0))
          refine bodyPost_ret (results_kn2 E.out rfl _ rfl (by rw [i64s_length]; exact hl16)) rfl ?_
          exact ⟨rfl, E.out.bel⟩
set_option maxHeartbeats 4000000 in
set_option maxRecDepth 100000 in
theorem rdec0 (A : Option Addr) (c : Nat) (p : Bool) (xs : List Nat) (w : World) (h : Bs w w.heap.size A 8 xs) (hk : kdN p xs = 0) :
    Calls Tryd.prog 9 #[.slice A 8 c, .bool p] w fun e w' => e = .returned (.tuple #[arr (fl z64 (dtV p xs) 16), .int .i64 0]) ∧ Below w.heap.size w w' := by
  have E := Lib.hid ((Kn.start w).arg_bs h)
  have hxl := h.1
  have hK := Lib.hid (fun u hu => show Calls Tryd.prog 11 #[.slice A 8 c, .bool p] u (fun e w' => e = .returned (.int .i64 ((kdN p xs : Nat) : Int)) ∧ Below u.heap.size u w') from kind11 A 8 c p xs u hu (by omega))
  have hP := Lib.hid (fun u hu => parts11 A c p xs u hu)
  have hPa := Lib.hid (fun u => rpaint_any (pD (pxs p xs)) (pF (pxs p xs)) (pZ (pxs p xs)) u (pZ_length _) (ok_parts _))
  have hBa := Lib.hid (fun u => rbases_any (pD (pxs p xs)) (pF (pxs p xs)) (pZ (pxs p xs)) u (pZ_length _) (ok_parts _))
  have hT := Lib.hid (fun u hu => show Calls Tryd.prog 27 #[.slice A 8 c, .int .i64 30, .int .i64 1] u (fun e w' => e = .returned (.int .i64 (((bt xs true 30).toNat : Nat) : Int)) ∧ u = w') from by
    have k := top_any A 8 c 30 1 30 1 rfl rfl xs u.heap.size u hu (by omega) (by omega) (by omega)
    rw [G_one] at k
    exact k)
  have hz24 := Lib.hid z24_length
  have hzz := Lib.hid (show (i64s z64).length = 64 from rfl)
  have hZl := Lib.hid (pZ_length (pxs p xs))
  have hbl := Lib.hid (baV_length (pD (pxs p xs)) (pZ (pxs p xs)))
  have hpl := Lib.hid (paV_length (pD (pxs p xs)) (pF (pxs p xs)) (pZ (pxs p xs)))
  have hFl := Lib.hid (fun k => show (fl (paV (pD (pxs p xs)) (pF (pxs p xs)) (pZ (pxs p xs))) (dtV p xs) k).length = 64 from by rw [fl_length]; exact paV_length _ _ _)
  have hF0 := Lib.hid (fl_zero (paV (pD (pxs p xs)) (pF (pxs p xs)) (pZ (pxs p xs))) (dtV p xs))
  have hFs := Lib.hid (fun k => fl_succ (paV (pD (pxs p xs)) (pF (pxs p xs)) (pZ (pxs p xs))) (dtV p xs) k)
  have hFe : fl (paV (pD (pxs p xs)) (pF (pxs p xs)) (pZ (pxs p xs))) (dtV p xs) 16 = fl z64 (dtV p xs) 16 := fl_base _ _ (paV_length _ _ _) z64_length _ (fun i hi => dtV_length p xs i hi)
  have hZb := Lib.hid (fun i (hi : i < 16) => z_bd (pxs p xs) i hi)
  have hCw := Lib.hid (fun i (hi : i < 16) => blk_z (pD (pxs p xs)) (pF (pxs p xs)) (pZ (pxs p xs)) (show 10 + i = (8 + i) + 2 by omega) (by rw [pZ_length]; omega))
  have hDl := Lib.hid (fun i (hi : i < 16) => dtV_length p xs i hi)
  rw [← hFe]
  have hDc := Lib.hid (fun i ho hw => dtV_clear p xs i ho hw)
  have hDb := Lib.hid (fun i ho hw => dtV_base p xs i hk ho hw)
  have hDk := Lib.hid (fun i hn hn' => dtV_keep p xs i hk hn hn')
  have hKp := Lib.hid (fun i (hi : i < 16) (he : dtV p xs i = txV (pD (pxs p xs)) (pF (pxs p xs)) (pZ (pxs p xs)) i) => fl_keep (paV (pD (pxs p xs)) (pF (pxs p xs)) (pZ (pxs p xs))) (paV_length _ _ _) (dtV p xs) (fun i hi => dtV_length p xs i hi) i hi (by rw [paV_row _ _ _ _ hi]; exact he))
  rw [opq_top] at hDc hDb hDk
  have hRr := Lib.hid (fun k => show ((baV (pD (pxs p xs)) (pZ (pxs p xs))).drop (k * 4)).take 4 = bRow (pD (pxs p xs)) (pZ (pxs p xs)) k from rfl)
  have hHf := Lib.hid (fun (i : Nat) (hi : i < 16) u => show Calls Tryd.prog 32 #[.bool (pF (pxs p xs)), .int .i64 (i : Int)] u (fun e w' => e = .returned (.int .i64 ((halfN (pF (pxs p xs)) i : Nat) : Int)) ∧ u = w') from by
    have k := rhalf_any (pF (pxs p xs)) (i : Int) u
    rw [halfV_nat _ hi] at k
    exact k)
  have hHl := Lib.hid (fun i (hi : i < 16) => halfN_lt (pF (pxs p xs)) hi)
  clear h hFe hxl
  generalize kdN p xs = kd at *
  subst hk
  generalize bRow (pD (pxs p xs)) (pZ (pxs p xs)) = BR at *
  generalize txV (pD (pxs p xs)) (pF (pxs p xs)) (pZ (pxs p xs)) = TX at *
  generalize halfN (pF (pxs p xs)) = HN at *
  generalize fl (paV (pD (pxs p xs)) (pF (pxs p xs)) (pZ (pxs p xs))) (dtV p xs) = FL at *
  generalize paV (pD (pxs p xs)) (pF (pxs p xs)) (pZ (pxs p xs)) = PV at *
  generalize baV (pD (pxs p xs)) (pZ (pxs p xs)) = BA at *
  generalize dtV p xs = DT at *
  generalize pZ (pxs p xs) = Z at *
  generalize pF (pxs p xs) = f at *
  generalize pD (pxs p xs) = d at *
  cases p with
  | false =>
    go_enter Tryd.func9, Tryd.ntmps9
    go_wp2_with (first
      | (go_at_call 11; (with_reducible refine (hK.out _ ?ha).mono ?_); (case ha => exact E.out.bs (by simp)); clear hK; rintro e w2 ⟨rfl, hb⟩; have E1 := Lib.hid (E.out.later hb); clear hb E; have E := E1; clear E1)
      | (go_at_call 27; (with_reducible refine (hT.out _ ?ha).mono ?_); (case ha => exact E.out.bs (by simp)); clear hT; rintro e w2 ⟨rfl, rfl⟩)
      | (go_at_call 28; (with_reducible refine (hP.out _ ?ha).mono ?_); (case ha => exact E.out.bs (by simp)); clear hP; rintro e w2 ⟨rfl, hb⟩; have E1 := Lib.hid (E.out.later hb); clear hb E; have E := E1; clear E1)
      | (go_at_call 29; (with_reducible refine (hPa.out _).mono ?_); clear hPa; rintro e w2 ⟨rfl, hb⟩; have E1 := Lib.hid (E.out.later hb); clear hb E; have E := E1; clear E1)
      | (go_at_call 30; (with_reducible refine (hBa.out _).mono ?_); clear hBa; rintro e w2 ⟨rfl, hb⟩; have E1 := Lib.hid (E.out.later hb); clear hb E; have E := E1; clear E1)
      | ((with_reducible refine kn_bputall (g := g8) E.out rfl rfl rfl rfl rfl ?h1 ?h2 ?_); (case h1 => exact hz24.out); (case h2 => exact hZl.out); clear E; intro u E0; have E := Lib.hid E0; clear E0)
      | ((with_reducible refine kn_ball (g := g8) E.out rfl rfl rfl ?h1 ?_); (case h1 => exact hZl.out))
      | ((with_reducible refine kn_stores (g := g9) (vs := i64s PV) E.out rfl rfl rfl rfl rfl ?hl ?h1 ?_); (case hl => exact ⟨hzz.out, by rw [i64s_length]; exact hpl.out⟩); (case h1 => exact i64s_one _); clear E; intro u E0; have E := Lib.hid E0; clear E0)
      | ((with_reducible refine kn_stores (g := g10) (vs := i64s BA) E.out rfl rfl rfl rfl rfl ?hl ?h1 ?_); (case hl => exact ⟨rfl, by rw [i64s_length]; exact hbl.out⟩); (case h1 => exact i64s_one _); clear E; intro u E0; have E := Lib.hid E0; clear E0)
      | ((with_reducible refine kn_load E.out rfl rfl rfl rfl ?_)) | ((with_reducible refine kn_load_if E.out rfl rfl rfl rfl ?_)) | ((with_reducible refine kn_loads E.out rfl rfl rfl ?_ ?_); (focus (first | rfl | (simp only [i64s_length, u8s_length]; first | rfl | assumption | omega)))) | ((with_reducible refine kn_loads_if E.out rfl rfl rfl ?_ ?_); (focus (first | rfl | (simp only [i64s_length, u8s_length]; first | rfl | assumption | omega)))) | ((with_reducible refine kn_stores E.out rfl rfl rfl rfl rfl ?_ ?_ ?_); (focus (first | exact ⟨rfl, rfl⟩ | (simp only [i64s_length, u8s_length]; refine ⟨?_, ?_⟩ <;> first | rfl | assumption | omega))); (focus (first | exact i64s_one _ | exact u8s_one _ | simp [Value.oneCell'])); clear E; intro u E0; have E := Lib.hid E0; clear E0) | ((with_reducible refine kn_alloc (o := ⟨some 4, _, _, _, _, _⟩) E.out rfl rfl ?_); clear E; intro g4 u E0 hb0; have E := Lib.hid E0; clear E0 hb0) | ((with_reducible refine kn_box (o := ⟨some 4, _, _, _, _, _⟩) E.out rfl rfl rfl ?_); clear E; intro g4 u E0 hb0; have E := Lib.hid E0; clear E0 hb0) | ((with_reducible refine kn_box_int (o := ⟨some 4, _, _, _, _, _⟩) E.out rfl rfl rfl ?_); clear E; intro g4 u E0 hb0; have E := Lib.hid E0; clear E0 hb0) | ((with_reducible refine kn_box_slice (o := ⟨some 4, _, _, _, _, _⟩) E.out rfl rfl rfl ?_); clear E; intro g4 u E0 hb0; have E := Lib.hid E0; clear E0 hb0) | ((with_reducible refine kn_box_bool (o := ⟨some 4, _, _, _, _, _⟩) E.out rfl rfl rfl ?_); clear E; intro g4 u E0 hb0; have E := Lib.hid E0; clear E0 hb0) | ((with_reducible refine kn_box_func (o := ⟨some 4, _, _, _, _, _⟩) E.out rfl rfl rfl ?_); clear E; intro g4 u E0 hb0; have E := Lib.hid E0; clear E0 hb0) | ((with_reducible refine kn_alloc (o := ⟨some 8, _, _, _, _, _⟩) E.out rfl rfl ?_); clear E; intro g8 u E0 hb0; have E := Lib.hid E0; clear E0 hb0) | ((with_reducible refine kn_box (o := ⟨some 8, _, _, _, _, _⟩) E.out rfl rfl rfl ?_); clear E; intro g8 u E0 hb0; have E := Lib.hid E0; clear E0 hb0) | ((with_reducible refine kn_box_int (o := ⟨some 8, _, _, _, _, _⟩) E.out rfl rfl rfl ?_); clear E; intro g8 u E0 hb0; have E := Lib.hid E0; clear E0 hb0) | ((with_reducible refine kn_box_slice (o := ⟨some 8, _, _, _, _, _⟩) E.out rfl rfl rfl ?_); clear E; intro g8 u E0 hb0; have E := Lib.hid E0; clear E0 hb0) | ((with_reducible refine kn_box_bool (o := ⟨some 8, _, _, _, _, _⟩) E.out rfl rfl rfl ?_); clear E; intro g8 u E0 hb0; have E := Lib.hid E0; clear E0 hb0) | ((with_reducible refine kn_box_func (o := ⟨some 8, _, _, _, _, _⟩) E.out rfl rfl rfl ?_); clear E; intro g8 u E0 hb0; have E := Lib.hid E0; clear E0 hb0) | ((with_reducible refine kn_alloc (o := ⟨some 9, _, _, _, _, _⟩) E.out rfl rfl ?_); clear E; intro g9 u E0 hb0; have E := Lib.hid E0; clear E0 hb0) | ((with_reducible refine kn_box (o := ⟨some 9, _, _, _, _, _⟩) E.out rfl rfl rfl ?_); clear E; intro g9 u E0 hb0; have E := Lib.hid E0; clear E0 hb0) | ((with_reducible refine kn_box_int (o := ⟨some 9, _, _, _, _, _⟩) E.out rfl rfl rfl ?_); clear E; intro g9 u E0 hb0; have E := Lib.hid E0; clear E0 hb0) | ((with_reducible refine kn_box_slice (o := ⟨some 9, _, _, _, _, _⟩) E.out rfl rfl rfl ?_); clear E; intro g9 u E0 hb0; have E := Lib.hid E0; clear E0 hb0) | ((with_reducible refine kn_box_bool (o := ⟨some 9, _, _, _, _, _⟩) E.out rfl rfl rfl ?_); clear E; intro g9 u E0 hb0; have E := Lib.hid E0; clear E0 hb0) | ((with_reducible refine kn_box_func (o := ⟨some 9, _, _, _, _, _⟩) E.out rfl rfl rfl ?_); clear E; intro g9 u E0 hb0; have E := Lib.hid E0; clear E0 hb0) | ((with_reducible refine kn_alloc (o := ⟨some 10, _, _, _, _, _⟩) E.out rfl rfl ?_); clear E; intro g10 u E0 hb0; have E := Lib.hid E0; clear E0 hb0) | ((with_reducible refine kn_box (o := ⟨some 10, _, _, _, _, _⟩) E.out rfl rfl rfl ?_); clear E; intro g10 u E0 hb0; have E := Lib.hid E0; clear E0 hb0) | ((with_reducible refine kn_box_int (o := ⟨some 10, _, _, _, _, _⟩) E.out rfl rfl rfl ?_); clear E; intro g10 u E0 hb0; have E := Lib.hid E0; clear E0 hb0) | ((with_reducible refine kn_box_slice (o := ⟨some 10, _, _, _, _, _⟩) E.out rfl rfl rfl ?_); clear E; intro g10 u E0 hb0; have E := Lib.hid E0; clear E0 hb0) | ((with_reducible refine kn_box_bool (o := ⟨some 10, _, _, _, _, _⟩) E.out rfl rfl rfl ?_); clear E; intro g10 u E0 hb0; have E := Lib.hid E0; clear E0 hb0) | ((with_reducible refine kn_box_func (o := ⟨some 10, _, _, _, _, _⟩) E.out rfl rfl rfl ?_); clear E; intro g10 u E0 hb0; have E := Lib.hid E0; clear E0 hb0))
    go_loopw [12] (fun ck wr => ∃ i : Nat, i ≤ 16 ∧ ck = .int .i64 (i : Int) ∧ Hid (Kn w [.row g10 51 (i64s BA), .row g9 27 (i64s (FL i)), .row g8 65 (blk d f Z), .row g4 27 (i64s z64)] [bsF A 8 xs] wr)) (fun ck _ => 16 - (intOf ck).toNat)
    case atStart => exact ⟨0, by omega, rfl, by rw [hF0.out]; exact E.out.part _ _ (by repeat (first | exact List.Sublist.refl _ | apply List.Sublist.cons_cons | apply List.Sublist.cons)) (by simp)⟩
    case round =>
      clear E
      obtain ⟨i, hi, rfl, E⟩ := hrel
      have hl := hFl.out i
      by_cases hlt : i < 16
      · have hi3 : (i : Int) < 16 := by omega
        have hi8 : (8 : Int) + i < 24 := by omega
        have hzb := hZb.out i hlt
        have hcw := Lib.hid (hCw.out i hlt)
        have hdl := Lib.hid (hDl.out i hlt)
        have hfs := Lib.hid (hFs.out i)
        have hdc := hDc.out i
        have hdb := hDb.out i
        have hdk := hDk.out i
        have hkp := hKp.out i hlt
        have hhf := Lib.hid (fun u => hHf.out i hlt u)
        have hhl := hHl.out i hlt
        obtain ⟨v, hv⟩ : ∃ v : Nat, Z.getD (8 + i) 0 = (v : Int) := ⟨(Z.getD (8 + i) 0).toNat, by omega⟩
        rw [hv] at hcw hzb hdc hdb hdk
        have hv4 : v < 4 := by omega
        have hv42 : (v : Int) < 4 := by omega
        obtain ⟨O, hO⟩ : ∃ z, FL i = z := ⟨_, rfl⟩
        rw [hO] at hfs hl E
        have hrr := Lib.hid (hRr.out (HN i))
        rw [hO] at hkp
        have hbl2 := hbl.out
        clear hZb hCw hDl hFl hF0 hFs hDc hDb hDk hKp hHf hHl hRr hO
        generalize DT i = dt at *
        generalize TX i = tx at *
        obtain ⟨q, hq⟩ : ∃ z, HN i = z := ⟨_, rfl⟩
        rw [hq] at hdb hhf hhl hrr
        clear hq
        have hhl2 : ((q : Nat) : Int) < 2 := by omega
        generalize BR q = br at *
        have hkp2 := Lib.hid (hkp (hdk (by simp) (by simp)))
        clear hkp hdk hdb hdc hfs
        go_wp2_with (first
          | ((with_reducible refine kn_load_if (g := g8) (i := 10 + i) E.out rfl rfl rfl hcw.out ?_))
          | ((with_reducible refine kn_load E.out rfl rfl rfl rfl ?_)) | ((with_reducible refine kn_load_if E.out rfl rfl rfl rfl ?_)) | ((with_reducible refine kn_loads E.out rfl rfl rfl ?_ ?_); (focus (first | rfl | (simp only [i64s_length, u8s_length]; first | rfl | assumption | omega)))) | ((with_reducible refine kn_loads_if E.out rfl rfl rfl ?_ ?_); (focus (first | rfl | (simp only [i64s_length, u8s_length]; first | rfl | assumption | omega)))) | ((with_reducible refine kn_stores E.out rfl rfl rfl rfl rfl ?_ ?_ ?_); (focus (first | exact ⟨rfl, rfl⟩ | (simp only [i64s_length, u8s_length]; refine ⟨?_, ?_⟩ <;> first | rfl | assumption | omega))); (focus (first | exact i64s_one _ | exact u8s_one _ | simp [Value.oneCell'])); clear E; intro u E0; have E := Lib.hid E0; clear E0))
        go_roundw
        case rel => exact ⟨i + 1, by omega, by go_num, by rw [hkp2.out]; exact E.out.part _ _ (by repeat (first | exact List.Sublist.refl _ | apply List.Sublist.cons_cons | apply List.Sublist.cons)) (fun _ h => h)⟩
        case measure => simp [intOf]; try omega
      · have hi3 : ¬ ((i : Int) < 16) := by omega
        have ei : i = 16 := by omega
        rw [ei] at E
        have hl16 := hFl.out 16
        clear hZb hCw hDl hFl hF0 hFs hlt hi ei
        go_wp2_with (first
          | ((with_reducible refine kn_loads (g := g9) E.out rfl rfl rfl ?hl ?_); (case hl => rw [i64s_length]; exact hl16))
          | ((with_reducible refine kn_stores (g := g4) (vs := i64s (FL 16)) E.out rfl rfl rfl rfl rfl ?hl ?h1 ?_); (case hl => exact ⟨hzz.out, by rw [i64s_length]; exact hl16⟩); (case h1 => exact i64s_one _); clear E; intro u E0; have E := Lib.hid E0; clear E0)
          | ((with_reducible refine kn_load E.out rfl rfl rfl rfl ?_)) | ((with_reducible refine kn_load_if E.out rfl rfl rfl rfl ?_)) | ((with_reducible refine kn_loads E.out rfl rfl rfl ?_ ?_); (focus (first | rfl | (simp only [i64s_length, u8s_length]; first | rfl | assumption | omega)))) | ((with_reducible refine kn_loads_if E.out rfl rfl rfl ?_ ?_); (focus (first | rfl | (simp only [i64s_length, u8s_length]; first | rfl | assumption | omega)))) | ((with_reducible refine kn_stores E.out rfl rfl rfl rfl rfl ?_ ?_ ?_); (focus (first | exact ⟨rfl, rfl⟩ | (simp only [i64s_length, u8s_length]; refine ⟨?_, ?_⟩ <;> first | rfl | assumption | omega))); (focus (first | exact i64s_one _ | exact u8s_one _ | simp [Value.oneCell'])); clear E; intro u E0; have E := Lib.hid E0; clear E0))
        refine bodyPost_ret (results_kn2 E.out rfl _ rfl (by rw [i64s_length]; exact hl16)) rfl ?_
        exact ⟨rfl, E.out.bel⟩
  | true =>
    cases hbt : bt xs true 30 with
    | true =>
      rw [hbt] at hT
      rw [hbt] at hDc hDb hDk
      go_enter Tryd.func9, Tryd.ntmps9
      go_wp2_with (first
        | (go_at_call 11; (with_reducible refine (hK.out _ ?ha).mono ?_); (case ha => exact E.out.bs (by simp)); clear hK; rintro e w2 ⟨rfl, hb⟩; have E1 := Lib.hid (E.out.later hb); clear hb E; have E := E1; clear E1)
        | (go_at_call 27; (with_reducible refine (hT.out _ ?ha).mono ?_); (case ha => exact E.out.bs (by simp)); clear hT; rintro e w2 ⟨rfl, rfl⟩)
        | (go_at_call 28; (with_reducible refine (hP.out _ ?ha).mono ?_); (case ha => exact E.out.bs (by simp)); clear hP; rintro e w2 ⟨rfl, hb⟩; have E1 := Lib.hid (E.out.later hb); clear hb E; have E := E1; clear E1)
        | (go_at_call 29; (with_reducible refine (hPa.out _).mono ?_); clear hPa; rintro e w2 ⟨rfl, hb⟩; have E1 := Lib.hid (E.out.later hb); clear hb E; have E := E1; clear E1)
        | (go_at_call 30; (with_reducible refine (hBa.out _).mono ?_); clear hBa; rintro e w2 ⟨rfl, hb⟩; have E1 := Lib.hid (E.out.later hb); clear hb E; have E := E1; clear E1)
        | ((with_reducible refine kn_bputall (g := g8) E.out rfl rfl rfl rfl rfl ?h1 ?h2 ?_); (case h1 => exact hz24.out); (case h2 => exact hZl.out); clear E; intro u E0; have E := Lib.hid E0; clear E0)
        | ((with_reducible refine kn_ball (g := g8) E.out rfl rfl rfl ?h1 ?_); (case h1 => exact hZl.out))
        | ((with_reducible refine kn_stores (g := g9) (vs := i64s PV) E.out rfl rfl rfl rfl rfl ?hl ?h1 ?_); (case hl => exact ⟨hzz.out, by rw [i64s_length]; exact hpl.out⟩); (case h1 => exact i64s_one _); clear E; intro u E0; have E := Lib.hid E0; clear E0)
        | ((with_reducible refine kn_stores (g := g10) (vs := i64s BA) E.out rfl rfl rfl rfl rfl ?hl ?h1 ?_); (case hl => exact ⟨rfl, by rw [i64s_length]; exact hbl.out⟩); (case h1 => exact i64s_one _); clear E; intro u E0; have E := Lib.hid E0; clear E0)
        | ((with_reducible refine kn_load E.out rfl rfl rfl rfl ?_)) | ((with_reducible refine kn_load_if E.out rfl rfl rfl rfl ?_)) | ((with_reducible refine kn_loads E.out rfl rfl rfl ?_ ?_); (focus (first | rfl | (simp only [i64s_length, u8s_length]; first | rfl | assumption | omega)))) | ((with_reducible refine kn_loads_if E.out rfl rfl rfl ?_ ?_); (focus (first | rfl | (simp only [i64s_length, u8s_length]; first | rfl | assumption | omega)))) | ((with_reducible refine kn_stores E.out rfl rfl rfl rfl rfl ?_ ?_ ?_); (focus (first | exact ⟨rfl, rfl⟩ | (simp only [i64s_length, u8s_length]; refine ⟨?_, ?_⟩ <;> first | rfl | assumption | omega))); (focus (first | exact i64s_one _ | exact u8s_one _ | simp [Value.oneCell'])); clear E; intro u E0; have E := Lib.hid E0; clear E0) | ((with_reducible refine kn_alloc (o := ⟨some 4, _, _, _, _, _⟩) E.out rfl rfl ?_); clear E; intro g4 u E0 hb0; have E := Lib.hid E0; clear E0 hb0) | ((with_reducible refine kn_box (o := ⟨some 4, _, _, _, _, _⟩) E.out rfl rfl rfl ?_); clear E; intro g4 u E0 hb0; have E := Lib.hid E0; clear E0 hb0) | ((with_reducible refine kn_box_int (o := ⟨some 4, _, _, _, _, _⟩) E.out rfl rfl rfl ?_); clear E; intro g4 u E0 hb0; have E := Lib.hid E0; clear E0 hb0) | ((with_reducible refine kn_box_slice (o := ⟨some 4, _, _, _, _, _⟩) E.out rfl rfl rfl ?_); clear E; intro g4 u E0 hb0; have E := Lib.hid E0; clear E0 hb0) | ((with_reducible refine kn_box_bool (o := ⟨some 4, _, _, _, _, _⟩) E.out rfl rfl rfl ?_); clear E; intro g4 u E0 hb0; have E := Lib.hid E0; clear E0 hb0) | ((with_reducible refine kn_box_func (o := ⟨some 4, _, _, _, _, _⟩) E.out rfl rfl rfl ?_); clear E; intro g4 u E0 hb0; have E := Lib.hid E0; clear E0 hb0) | ((with_reducible refine kn_alloc (o := ⟨some 8, _, _, _, _, _⟩) E.out rfl rfl ?_); clear E; intro g8 u E0 hb0; have E := Lib.hid E0; clear E0 hb0) | ((with_reducible refine kn_box (o := ⟨some 8, _, _, _, _, _⟩) E.out rfl rfl rfl ?_); clear E; intro g8 u E0 hb0; have E := Lib.hid E0; clear E0 hb0) | ((with_reducible refine kn_box_int (o := ⟨some 8, _, _, _, _, _⟩) E.out rfl rfl rfl ?_); clear E; intro g8 u E0 hb0; have E := Lib.hid E0; clear E0 hb0) | ((with_reducible refine kn_box_slice (o := ⟨some 8, _, _, _, _, _⟩) E.out rfl rfl rfl ?_); clear E; intro g8 u E0 hb0; have E := Lib.hid E0; clear E0 hb0) | ((with_reducible refine kn_box_bool (o := ⟨some 8, _, _, _, _, _⟩) E.out rfl rfl rfl ?_); clear E; intro g8 u E0 hb0; have E := Lib.hid E0; clear E0 hb0) | ((with_reducible refine kn_box_func (o := ⟨some 8, _, _, _, _, _⟩) E.out rfl rfl rfl ?_); clear E; intro g8 u E0 hb0; have E := Lib.hid E0; clear E0 hb0) | ((with_reducible refine kn_alloc (o := ⟨some 9, _, _, _, _, _⟩) E.out rfl rfl ?_); clear E; intro g9 u E0 hb0; have E := Lib.hid E0; clear E0 hb0) | ((with_reducible refine kn_box (o := ⟨some 9, _, _, _, _, _⟩) E.out rfl rfl rfl ?_); clear E; intro g9 u E0 hb0; have E := Lib.hid E0; clear E0 hb0) | ((with_reducible refine kn_box_int (o := ⟨some 9, _, _, _, _, _⟩) E.out rfl rfl rfl ?_); clear E; intro g9 u E0 hb0; have E := Lib.hid E0; clear E0 hb0) | ((with_reducible refine kn_box_slice (o := ⟨some 9, _, _, _, _, _⟩) E.out rfl rfl rfl ?_); clear E; intro g9 u E0 hb0; have E := Lib.hid E0; clear E0 hb0) | ((with_reducible refine kn_box_bool (o := ⟨some 9, _, _, _, _, _⟩) E.out rfl rfl rfl ?_); clear E; intro g9 u E0 hb0; have E := Lib.hid E0; clear E0 hb0) | ((with_reducible refine kn_box_func (o := ⟨some 9, _, _, _, _, _⟩) E.out rfl rfl rfl ?_); clear E; intro g9 u E0 hb0; have E := Lib.hid E0; clear E0 hb0) | ((with_reducible refine kn_alloc (o := ⟨some 10, _, _, _, _, _⟩) E.out rfl rfl ?_); clear E; intro g10 u E0 hb0; have E := Lib.hid E0; clear E0 hb0) | ((with_reducible refine kn_box (o := ⟨some 10, _, _, _, _, _⟩) E.out rfl rfl rfl ?_); clear E; intro g10 u E0 hb0; have E := Lib.hid E0; clear E0 hb0) | ((with_reducible refine kn_box_int (o := ⟨some 10, _, _, _, _, _⟩) E.out rfl rfl rfl ?_); clear E; intro g10 u E0 hb0; have E := Lib.hid E0; clear E0 hb0) | ((with_reducible refine kn_box_slice (o := ⟨some 10, _, _, _, _, _⟩) E.out rfl rfl rfl ?_); clear E; intro g10 u E0 hb0; have E := Lib.hid E0; clear E0 hb0) | ((with_reducible refine kn_box_bool (o := ⟨some 10, _, _, _, _, _⟩) E.out rfl rfl rfl ?_); clear E; intro g10 u E0 hb0; have E := Lib.hid E0; clear E0 hb0) | ((with_reducible refine kn_box_func (o := ⟨some 10, _, _, _, _, _⟩) E.out rfl rfl rfl ?_); clear E; intro g10 u E0 hb0; have E := Lib.hid E0; clear E0 hb0))
      go_loopw [12] (fun ck wr => ∃ i : Nat, i ≤ 16 ∧ ck = .int .i64 (i : Int) ∧ Hid (Kn w [.row g10 51 (i64s BA), .row g9 27 (i64s (FL i)), .row g8 65 (blk d f Z), .row g4 27 (i64s z64)] [bsF A 8 xs] wr)) (fun ck _ => 16 - (intOf ck).toNat)
      case atStart => exact ⟨0, by omega, rfl, by rw [hF0.out]; exact E.out.part _ _ (by repeat (first | exact List.Sublist.refl _ | apply List.Sublist.cons_cons | apply List.Sublist.cons)) (by simp)⟩
      case round =>
        clear E
        obtain ⟨i, hi, rfl, E⟩ := hrel
        have hl := hFl.out i
        by_cases hlt : i < 16
        · have hi3 : (i : Int) < 16 := by omega
          have hi8 : (8 : Int) + i < 24 := by omega
          have hzb := hZb.out i hlt
          have hcw := Lib.hid (hCw.out i hlt)
          have hdl := Lib.hid (hDl.out i hlt)
          have hfs := Lib.hid (hFs.out i)
          have hdc := hDc.out i
          have hdb := hDb.out i
          have hdk := hDk.out i
          have hkp := hKp.out i hlt
          have hhf := Lib.hid (fun u => hHf.out i hlt u)
          have hhl := hHl.out i hlt
          obtain ⟨v, hv⟩ : ∃ v : Nat, Z.getD (8 + i) 0 = (v : Int) := ⟨(Z.getD (8 + i) 0).toNat, by omega⟩
          rw [hv] at hcw hzb hdc hdb hdk
          have hv4 : v < 4 := by omega
          have hv42 : (v : Int) < 4 := by omega
          obtain ⟨O, hO⟩ : ∃ z, FL i = z := ⟨_, rfl⟩
          rw [hO] at hfs hl E
          have hrr := Lib.hid (hRr.out (HN i))
          rw [hO] at hkp
          have hbl2 := hbl.out
          clear hZb hCw hDl hFl hF0 hFs hDc hDb hDk hKp hHf hHl hRr hO
          generalize DT i = dt at *
          generalize TX i = tx at *
          obtain ⟨q, hq⟩ : ∃ z, HN i = z := ⟨_, rfl⟩
          rw [hq] at hdb hhf hhl hrr
          clear hq
          have hhl2 : ((q : Nat) : Int) < 2 := by omega
          generalize BR q = br at *
          have hkp2 := Lib.hid (hkp (hdk (by simp) (by simp)))
          clear hkp hdk hdb hdc hfs
          go_wp2_with (first
            | ((with_reducible refine kn_load_if (g := g8) (i := 10 + i) E.out rfl rfl rfl hcw.out ?_))
            | ((with_reducible refine kn_load E.out rfl rfl rfl rfl ?_)) | ((with_reducible refine kn_load_if E.out rfl rfl rfl rfl ?_)) | ((with_reducible refine kn_loads E.out rfl rfl rfl ?_ ?_); (focus (first | rfl | (simp only [i64s_length, u8s_length]; first | rfl | assumption | omega)))) | ((with_reducible refine kn_loads_if E.out rfl rfl rfl ?_ ?_); (focus (first | rfl | (simp only [i64s_length, u8s_length]; first | rfl | assumption | omega)))) | ((with_reducible refine kn_stores E.out rfl rfl rfl rfl rfl ?_ ?_ ?_); (focus (first | exact ⟨rfl, rfl⟩ | (simp only [i64s_length, u8s_length]; refine ⟨?_, ?_⟩ <;> first | rfl | assumption | omega))); (focus (first | exact i64s_one _ | exact u8s_one _ | simp [Value.oneCell'])); clear E; intro u E0; have E := Lib.hid E0; clear E0))
          go_roundw
          case rel => exact ⟨i + 1, by omega, by go_num, by rw [hkp2.out]; exact E.out.part _ _ (by repeat (first | exact List.Sublist.refl _ | apply List.Sublist.cons_cons | apply List.Sublist.cons)) (fun _ h => h)⟩
          case measure => simp [intOf]; try omega
        · have hi3 : ¬ ((i : Int) < 16) := by omega
          have ei : i = 16 := by omega
          rw [ei] at E
          have hl16 := hFl.out 16
          clear hZb hCw hDl hFl hF0 hFs hlt hi ei
          go_wp2_with (first
            | ((with_reducible refine kn_loads (g := g9) E.out rfl rfl rfl ?hl ?_); (case hl => rw [i64s_length]; exact hl16))
            | ((with_reducible refine kn_stores (g := g4) (vs := i64s (FL 16)) E.out rfl rfl rfl rfl rfl ?hl ?h1 ?_); (case hl => exact ⟨hzz.out, by rw [i64s_length]; exact hl16⟩); (case h1 => exact i64s_one _); clear E; intro u E0; have E := Lib.hid E0; clear E0)
            | ((with_reducible refine kn_load E.out rfl rfl rfl rfl ?_)) | ((with_reducible refine kn_load_if E.out rfl rfl rfl rfl ?_)) | ((with_reducible refine kn_loads E.out rfl rfl rfl ?_ ?_); (focus (first | rfl | (simp only [i64s_length, u8s_length]; first | rfl | assumption | omega)))) | ((with_reducible refine kn_loads_if E.out rfl rfl rfl ?_ ?_); (focus (first | rfl | (simp only [i64s_length, u8s_length]; first | rfl | assumption | omega)))) | ((with_reducible refine kn_stores E.out rfl rfl rfl rfl rfl ?_ ?_ ?_); (focus (first | exact ⟨rfl, rfl⟩ | (simp only [i64s_length, u8s_length]; refine ⟨?_, ?_⟩ <;> first | rfl | assumption | omega))); (focus (first | exact i64s_one _ | exact u8s_one _ | simp [Value.oneCell'])); clear E; intro u E0; have E := Lib.hid E0; clear E0))
          refine bodyPost_ret (results_kn2 E.out rfl _ rfl (by rw [i64s_length]; exact hl16)) rfl ?_
          exact ⟨rfl, E.out.bel⟩
    | false =>
      rw [hbt] at hT
      rw [hbt] at hDc hDb hDk
      go_enter Tryd.func9, Tryd.ntmps9
      go_wp2_with (first
        | (go_at_call 11; (with_reducible refine (hK.out _ ?ha).mono ?_); (case ha => exact E.out.bs (by simp)); clear hK; rintro e w2 ⟨rfl, hb⟩; have E1 := Lib.hid (E.out.later hb); clear hb E; have E := E1; clear E1)
        | (go_at_call 27; (with_reducible refine (hT.out _ ?ha).mono ?_); (case ha => exact E.out.bs (by simp)); clear hT; rintro e w2 ⟨rfl, rfl⟩)
        | (go_at_call 28; (with_reducible refine (hP.out _ ?ha).mono ?_); (case ha => exact E.out.bs (by simp)); clear hP; rintro e w2 ⟨rfl, hb⟩; have E1 := Lib.hid (E.out.later hb); clear hb E; have E := E1; clear E1)
        | (go_at_call 29; (with_reducible refine (hPa.out _).mono ?_); clear hPa; rintro e w2 ⟨rfl, hb⟩; have E1 := Lib.hid (E.out.later hb); clear hb E; have E := E1; clear E1)
        | (go_at_call 30; (with_reducible refine (hBa.out _).mono ?_); clear hBa; rintro e w2 ⟨rfl, hb⟩; have E1 := Lib.hid (E.out.later hb); clear hb E; have E := E1; clear E1)
        | ((with_reducible refine kn_bputall (g := g8) E.out rfl rfl rfl rfl rfl ?h1 ?h2 ?_); (case h1 => exact hz24.out); (case h2 => exact hZl.out); clear E; intro u E0; have E := Lib.hid E0; clear E0)
        | ((with_reducible refine kn_ball (g := g8) E.out rfl rfl rfl ?h1 ?_); (case h1 => exact hZl.out))
        | ((with_reducible refine kn_stores (g := g9) (vs := i64s PV) E.out rfl rfl rfl rfl rfl ?hl ?h1 ?_); (case hl => exact ⟨hzz.out, by rw [i64s_length]; exact hpl.out⟩); (case h1 => exact i64s_one _); clear E; intro u E0; have E := Lib.hid E0; clear E0)
        | ((with_reducible refine kn_stores (g := g10) (vs := i64s BA) E.out rfl rfl rfl rfl rfl ?hl ?h1 ?_); (case hl => exact ⟨rfl, by rw [i64s_length]; exact hbl.out⟩); (case h1 => exact i64s_one _); clear E; intro u E0; have E := Lib.hid E0; clear E0)
        | ((with_reducible refine kn_load E.out rfl rfl rfl rfl ?_)) | ((with_reducible refine kn_load_if E.out rfl rfl rfl rfl ?_)) | ((with_reducible refine kn_loads E.out rfl rfl rfl ?_ ?_); (focus (first | rfl | (simp only [i64s_length, u8s_length]; first | rfl | assumption | omega)))) | ((with_reducible refine kn_loads_if E.out rfl rfl rfl ?_ ?_); (focus (first | rfl | (simp only [i64s_length, u8s_length]; first | rfl | assumption | omega)))) | ((with_reducible refine kn_stores E.out rfl rfl rfl rfl rfl ?_ ?_ ?_); (focus (first | exact ⟨rfl, rfl⟩ | (simp only [i64s_length, u8s_length]; refine ⟨?_, ?_⟩ <;> first | rfl | assumption | omega))); (focus (first | exact i64s_one _ | exact u8s_one _ | simp [Value.oneCell'])); clear E; intro u E0; have E := Lib.hid E0; clear E0) | ((with_reducible refine kn_alloc (o := ⟨some 4, _, _, _, _, _⟩) E.out rfl rfl ?_); clear E; intro g4 u E0 hb0; have E := Lib.hid E0; clear E0 hb0) | ((with_reducible refine kn_box (o := ⟨some 4, _, _, _, _, _⟩) E.out rfl rfl rfl ?_); clear E; intro g4 u E0 hb0; have E := Lib.hid E0; clear E0 hb0) | ((with_reducible refine kn_box_int (o := ⟨some 4, _, _, _, _, _⟩) E.out rfl rfl rfl ?_); clear E; intro g4 u E0 hb0; have E := Lib.hid E0; clear E0 hb0) | ((with_reducible refine kn_box_slice (o := ⟨some 4, _, _, _, _, _⟩) E.out rfl rfl rfl ?_); clear E; intro g4 u E0 hb0; have E := Lib.hid E0; clear E0 hb0) | ((with_reducible refine kn_box_bool (o := ⟨some 4, _, _, _, _, _⟩) E.out rfl rfl rfl ?_); clear E; intro g4 u E0 hb0; have E := Lib.hid E0; clear E0 hb0) | ((with_reducible refine kn_box_func (o := ⟨some 4, _, _, _, _, _⟩) E.out rfl rfl rfl ?_); clear E; intro g4 u E0 hb0; have E := Lib.hid E0; clear E0 hb0) | ((with_reducible refine kn_alloc (o := ⟨some 8, _, _, _, _, _⟩) E.out rfl rfl ?_); clear E; intro g8 u E0 hb0; have E := Lib.hid E0; clear E0 hb0) | ((with_reducible refine kn_box (o := ⟨some 8, _, _, _, _, _⟩) E.out rfl rfl rfl ?_); clear E; intro g8 u E0 hb0; have E := Lib.hid E0; clear E0 hb0) | ((with_reducible refine kn_box_int (o := ⟨some 8, _, _, _, _, _⟩) E.out rfl rfl rfl ?_); clear E; intro g8 u E0 hb0; have E := Lib.hid E0; clear E0 hb0) | ((with_reducible refine kn_box_slice (o := ⟨some 8, _, _, _, _, _⟩) E.out rfl rfl rfl ?_); clear E; intro g8 u E0 hb0; have E := Lib.hid E0; clear E0 hb0) | ((with_reducible refine kn_box_bool (o := ⟨some 8, _, _, _, _, _⟩) E.out rfl rfl rfl ?_); clear E; intro g8 u E0 hb0; have E := Lib.hid E0; clear E0 hb0) | ((with_reducible refine kn_box_func (o := ⟨some 8, _, _, _, _, _⟩) E.out rfl rfl rfl ?_); clear E; intro g8 u E0 hb0; have E := Lib.hid E0; clear E0 hb0) | ((with_reducible refine kn_alloc (o := ⟨some 9, _, _, _, _, _⟩) E.out rfl rfl ?_); clear E; intro g9 u E0 hb0; have E := Lib.hid E0; clear E0 hb0) | ((with_reducible refine kn_box (o := ⟨some 9, _, _, _, _, _⟩) E.out rfl rfl rfl ?_); clear E; intro g9 u E0 hb0; have E := Lib.hid E0; clear E0 hb0) | ((with_reducible refine kn_box_int (o := ⟨some 9, _, _, _, _, _⟩) E.out rfl rfl rfl ?_); clear E; intro g9 u E0 hb0; have E := Lib.hid E0; clear E0 hb0) | ((with_reducible refine kn_box_slice (o := ⟨some 9, _, _, _, _, _⟩) E.out rfl rfl rfl ?_); clear E; intro g9 u E0 hb0; have E := Lib.hid E0; clear E0 hb0) | ((with_reducible refine kn_box_bool (o := ⟨some 9, _, _, _, _, _⟩) E.out rfl rfl rfl ?_); clear E; intro g9 u E0 hb0; have E := Lib.hid E0; clear E0 hb0) | ((with_reducible refine kn_box_func (o := ⟨some 9, _, _, _, _, _⟩) E.out rfl rfl rfl ?_); clear E; intro g9 u E0 hb0; have E := Lib.hid E0; clear E0 hb0) | ((with_reducible refine kn_alloc (o := ⟨some 10, _, _, _, _, _⟩) E.out rfl rfl ?_); clear E; intro g10 u E0 hb0; have E := Lib.hid E0; clear E0 hb0) | ((with_reducible refine kn_box (o := ⟨some 10, _, _, _, _, _⟩) E.out rfl rfl rfl ?_); clear E; intro g10 u E0 hb0; have E := Lib.hid E0; clear E0 hb0) | ((with_reducible refine kn_box_int (o := ⟨some 10, _, _, _, _, _⟩) E.out rfl rfl rfl ?_); clear E; intro g10 u E0 hb0; have E := Lib.hid E0; clear E0 hb0) | ((with_reducible refine kn_box_slice (o := ⟨some 10, _, _, _, _, _⟩) E.out rfl rfl rfl ?_); clear E; intro g10 u E0 hb0; have E := Lib.hid E0; clear E0 hb0) | ((with_reducible refine kn_box_bool (o := ⟨some 10, _, _, _, _, _⟩) E.out rfl rfl rfl ?_); clear E; intro g10 u E0 hb0; have E := Lib.hid E0; clear E0 hb0) | ((with_reducible refine kn_box_func (o := ⟨some 10, _, _, _, _, _⟩) E.out rfl rfl rfl ?_); clear E; intro g10 u E0 hb0; have E := Lib.hid E0; clear E0 hb0))
      go_loopw [12] (fun ck wr => ∃ i : Nat, i ≤ 16 ∧ ck = .int .i64 (i : Int) ∧ Hid (Kn w [.row g10 51 (i64s BA), .row g9 27 (i64s (FL i)), .row g8 65 (blk d f Z), .row g4 27 (i64s z64)] [bsF A 8 xs] wr)) (fun ck _ => 16 - (intOf ck).toNat)
      case atStart => exact ⟨0, by omega, rfl, by rw [hF0.out]; exact E.out.part _ _ (by repeat (first | exact List.Sublist.refl _ | apply List.Sublist.cons_cons | apply List.Sublist.cons)) (by simp)⟩
      case round =>
        clear E
        obtain ⟨i, hi, rfl, E⟩ := hrel
        have hl := hFl.out i
        by_cases hlt : i < 16
        · have hi3 : (i : Int) < 16 := by omega
          have hi8 : (8 : Int) + i < 24 := by omega
          have hzb := hZb.out i hlt
          have hcw := Lib.hid (hCw.out i hlt)
          have hdl := Lib.hid (hDl.out i hlt)
          have hfs := Lib.hid (hFs.out i)
          have hdc := hDc.out i
          have hdb := hDb.out i
          have hdk := hDk.out i
          have hkp := hKp.out i hlt
          have hhf := Lib.hid (fun u => hHf.out i hlt u)
          have hhl := hHl.out i hlt
          obtain ⟨v, hv⟩ : ∃ v : Nat, Z.getD (8 + i) 0 = (v : Int) := ⟨(Z.getD (8 + i) 0).toNat, by omega⟩
          rw [hv] at hcw hzb hdc hdb hdk
          have hv4 : v < 4 := by omega
          have hv42 : (v : Int) < 4 := by omega
          obtain ⟨O, hO⟩ : ∃ z, FL i = z := ⟨_, rfl⟩
          rw [hO] at hfs hl E
          have hrr := Lib.hid (hRr.out (HN i))
          rw [hO] at hkp
          have hbl2 := hbl.out
          clear hZb hCw hDl hFl hF0 hFs hDc hDb hDk hKp hHf hHl hRr hO
          generalize DT i = dt at *
          generalize TX i = tx at *
          obtain ⟨q, hq⟩ : ∃ z, HN i = z := ⟨_, rfl⟩
          rw [hq] at hdb hhf hhl hrr
          clear hq
          have hhl2 : ((q : Nat) : Int) < 2 := by omega
          generalize BR q = br at *
          by_cases h0 : v = 0
          · have hdt := hdb rfl (by omega)
            have hbr : br.length = 4 := by rw [← hdt]; exact hdl.out
            replace hdt := Lib.hid hdt
            have hqb : ((v : Int) == 0) = true := by simp; omega
            have hqc : ((v : Int) == 2) = false := by simp; omega
            clear hkp hdk hdb hdc
            go_wp2_with (first
              | ((with_reducible refine kn_load_if (g := g8) (i := 10 + i) E.out rfl rfl rfl hcw.out ?_))
              | (go_at_call 32; (with_reducible refine (hhf.out _).mono ?_); clear hhf; rintro e w1 ⟨rfl, rfl⟩)
              | ((with_reducible refine kn_bf (g := g8) E.out rfl rfl rfl ?_))
              | ((with_reducible refine kn_loadp (g := g10) (off := q * 4) E.out rfl rfl rfl ?hl ?_); (case hl => omega); rw [hrr.out])
              | ((with_reducible refine kn_storep (g := g9) (off := i * 4) (ys := br) E.out rfl rfl rfl rfl rfl ?hl ?hm ?_); (case hl => exact hbr); (case hm => omega); clear E; intro u E0; have E := Lib.hid E0; clear E0)
              | ((with_reducible refine kn_load E.out rfl rfl rfl rfl ?_)) | ((with_reducible refine kn_load_if E.out rfl rfl rfl rfl ?_)) | ((with_reducible refine kn_loads E.out rfl rfl rfl ?_ ?_); (focus (first | rfl | (simp only [i64s_length, u8s_length]; first | rfl | assumption | omega)))) | ((with_reducible refine kn_loads_if E.out rfl rfl rfl ?_ ?_); (focus (first | rfl | (simp only [i64s_length, u8s_length]; first | rfl | assumption | omega)))) | ((with_reducible refine kn_stores E.out rfl rfl rfl rfl rfl ?_ ?_ ?_); (focus (first | exact ⟨rfl, rfl⟩ | (simp only [i64s_length, u8s_length]; refine ⟨?_, ?_⟩ <;> first | rfl | assumption | omega))); (focus (first | exact i64s_one _ | exact u8s_one _ | simp [Value.oneCell'])); clear E; intro u E0; have E := Lib.hid E0; clear E0))
            go_roundw
            case rel => exact ⟨i + 1, by omega, by go_num, by rw [hfs.out, hdt.out]; exact E.out.part _ _ (by repeat (first | exact List.Sublist.refl _ | apply List.Sublist.cons_cons | apply List.Sublist.cons)) (fun _ h => h)⟩
            case measure => simp [intOf]; try omega
          · by_cases h2 : v = 2
            · have hdt := Lib.hid (hdc rfl (by omega))
              have hqb : ((v : Int) == 0) = false := by simp; omega
              have hqc : ((v : Int) == 2) = true := by simp; omega
              clear hkp hdk hdb hdc
              go_wp2_with (first
                | ((with_reducible refine kn_load_if (g := g8) (i := 10 + i) E.out rfl rfl rfl hcw.out ?_))
                | ((with_reducible refine kn_storep (g := g9) (off := i * 4) (ys := [0, 0, 0, 0]) E.out rfl rfl rfl rfl ?hy ?hl ?hm ?_); (case hy => rfl); (case hl => rfl); (case hm => omega); clear E; intro u E0; have E := Lib.hid E0; clear E0)
                | ((with_reducible refine kn_load E.out rfl rfl rfl rfl ?_)) | ((with_reducible refine kn_load_if E.out rfl rfl rfl rfl ?_)) | ((with_reducible refine kn_loads E.out rfl rfl rfl ?_ ?_); (focus (first | rfl | (simp only [i64s_length, u8s_length]; first | rfl | assumption | omega)))) | ((with_reducible refine kn_loads_if E.out rfl rfl rfl ?_ ?_); (focus (first | rfl | (simp only [i64s_length, u8s_length]; first | rfl | assumption | omega)))) | ((with_reducible refine kn_stores E.out rfl rfl rfl rfl rfl ?_ ?_ ?_); (focus (first | exact ⟨rfl, rfl⟩ | (simp only [i64s_length, u8s_length]; refine ⟨?_, ?_⟩ <;> first | rfl | assumption | omega))); (focus (first | exact i64s_one _ | exact u8s_one _ | simp [Value.oneCell'])); clear E; intro u E0; have E := Lib.hid E0; clear E0))
              go_roundw
              case rel => exact ⟨i + 1, by omega, by go_num, by rw [hfs.out, hdt.out]; exact E.out.part _ _ (by repeat (first | exact List.Sublist.refl _ | apply List.Sublist.cons_cons | apply List.Sublist.cons)) (fun _ h => h)⟩
              case measure => simp [intOf]; try omega
            · have hkp2 := Lib.hid (hkp (hdk (by omega) (by omega)))
              have hqb : ((v : Int) == 0) = false := by simp; omega
              have hqc : ((v : Int) == 2) = false := by simp; omega
              clear hkp hdk hdb hdc hfs
              go_wp2_with (first
                | ((with_reducible refine kn_load_if (g := g8) (i := 10 + i) E.out rfl rfl rfl hcw.out ?_))
                | ((with_reducible refine kn_load E.out rfl rfl rfl rfl ?_)) | ((with_reducible refine kn_load_if E.out rfl rfl rfl rfl ?_)) | ((with_reducible refine kn_loads E.out rfl rfl rfl ?_ ?_); (focus (first | rfl | (simp only [i64s_length, u8s_length]; first | rfl | assumption | omega)))) | ((with_reducible refine kn_loads_if E.out rfl rfl rfl ?_ ?_); (focus (first | rfl | (simp only [i64s_length, u8s_length]; first | rfl | assumption | omega)))) | ((with_reducible refine kn_stores E.out rfl rfl rfl rfl rfl ?_ ?_ ?_); (focus (first | exact ⟨rfl, rfl⟩ | (simp only [i64s_length, u8s_length]; refine ⟨?_, ?_⟩ <;> first | rfl | assumption | omega))); (focus (first | exact i64s_one _ | exact u8s_one _ | simp [Value.oneCell'])); clear E; intro u E0; have E := Lib.hid E0; clear E0))
              go_roundw
              case rel => exact ⟨i + 1, by omega, by go_num, by rw [hkp2.out]; exact E.out.part _ _ (by repeat (first | exact List.Sublist.refl _ | apply List.Sublist.cons_cons | apply List.Sublist.cons)) (fun _ h => h)⟩
              case measure => simp [intOf]; try omega
        · have hi3 : ¬ ((i : Int) < 16) := by omega
          have ei : i = 16 := by omega
          rw [ei] at E
          have hl16 := hFl.out 16
          clear hZb hCw hDl hFl hF0 hFs hlt hi ei
          go_wp2_with (first
            | ((with_reducible refine kn_loads (g := g9) E.out rfl rfl rfl ?hl ?_); (case hl => rw [i64s_length]; exact hl16))
            | ((with_reducible refine kn_stores (g := g4) (vs := i64s (FL 16)) E.out rfl rfl rfl rfl rfl ?hl ?h1 ?_); (case hl => exact ⟨hzz.out, by rw [i64s_length]; exact hl16⟩); (case h1 => exact i64s_one _); clear E; intro u E0; have E := Lib.hid E0; clear E0)
            | ((with_reducible refine kn_load E.out rfl rfl rfl rfl ?_)) | ((with_reducible refine kn_load_if E.out rfl rfl rfl rfl ?_)) | ((with_reducible refine kn_loads E.out rfl rfl rfl ?_ ?_); (focus (first | rfl | (simp only [i64s_length, u8s_length]; first | rfl | assumption | omega)))) | ((with_reducible refine kn_loads_if E.out rfl rfl rfl ?_ ?_); (focus (first | rfl | (simp only [i64s_length, u8s_length]; first | rfl | assumption | omega)))) | ((with_reducible refine kn_stores E.out rfl rfl rfl rfl rfl ?_ ?_ ?_); (focus (first | exact ⟨rfl, rfl⟩ | (simp only [i64s_length, u8s_length]; refine ⟨?_, ?_⟩ <;> first | rfl | assumption | omega))); (focus (first | exact i64s_one _ | exact u8s_one _ | simp [Value.oneCell'])); clear E; intro u E0; have E := Lib.hid E0; clear E0))
          refine bodyPost_ret (results_kn2 E.out rfl _ rfl (by rw [i64s_length]; exact hl16)) rfl ?_
          exact ⟨rfl, E.out.bel⟩
set_option maxHeartbeats 4000000 in
set_option maxRecDepth 100000 in
theorem rdecP (A : Option Addr) (c : Nat) (p : Bool) (xs : List Nat) (w : World) (h : Bs w w.heap.size A 8 xs) (hk : kdN p xs = 3) :
    Calls Tryd.prog 9 #[.slice A 8 c, .bool p] w fun e w' => e = .returned (.tuple #[arr (plV (Et.oV xs) (Et.hV xs) (Et.vV xs)), .int .i64 0]) ∧ Below w.heap.size w w' := by
  have E := Lib.hid ((Kn.start w).arg_bs h)
  have hxl := h.1
  have hK := Lib.hid (fun u hu => show Calls Tryd.prog 11 #[.slice A 8 c, .bool p] u (fun e w' => e = .returned (.int .i64 ((kdN p xs : Nat) : Int)) ∧ Below u.heap.size u w') from kind11 A 8 c p xs u hu (by omega))
  have hP := Lib.hid (fun u hu => planar11 A c xs u hu)
  have hfl := Lib.hid (plV_length (Et.oV xs) (Et.hV xs) (Et.vV xs))
  have hzz := Lib.hid (show (i64s z64).length = 64 from rfl)
  rw [hk] at hK
  clear h hxl hk
  generalize plV (Et.oV xs) (Et.hV xs) (Et.vV xs) = FR at *
  go_enter Tryd.func9, Tryd.ntmps9
  go_wp2_with (first
    | (go_at_call 11; (with_reducible refine (hK.out _ ?ha).mono ?_); (case ha => exact E.out.bs (by simp)); clear hK; rintro e w2 ⟨rfl, hb⟩; have E1 := Lib.hid (E.out.later hb); clear hb E; have E := E1; clear E1)
    | (go_at_call 26; (with_reducible refine (hP.out _ ?ha).mono ?_); (case ha => exact E.out.bs (by simp)); clear hP; rintro e w2 ⟨rfl, hb⟩; have E1 := Lib.hid (E.out.later hb); clear hb E; have E := E1; clear E1)
    | ((with_reducible refine kn_stores (g := g4) (vs := i64s FR) E.out rfl rfl rfl rfl rfl ?hl ?h1 ?_); (case hl => exact ⟨hzz.out, by rw [i64s_length]; exact hfl.out⟩); (case h1 => exact i64s_one _); clear E; intro u E0; have E := Lib.hid E0; clear E0)
    | ((with_reducible refine kn_load E.out rfl rfl rfl rfl ?_)) | ((with_reducible refine kn_load_if E.out rfl rfl rfl rfl ?_)) | ((with_reducible refine kn_loads E.out rfl rfl rfl ?_ ?_); (focus (first | rfl | (simp only [i64s_length, u8s_length]; first | rfl | assumption | omega)))) | ((with_reducible refine kn_loads_if E.out rfl rfl rfl ?_ ?_); (focus (first | rfl | (simp only [i64s_length, u8s_length]; first | rfl | assumption | omega)))) | ((with_reducible refine kn_stores E.out rfl rfl rfl rfl rfl ?_ ?_ ?_); (focus (first | exact ⟨rfl, rfl⟩ | (simp only [i64s_length, u8s_length]; refine ⟨?_, ?_⟩ <;> first | rfl | assumption | omega))); (focus (first | exact i64s_one _ | exact u8s_one _ | simp [Value.oneCell'])); clear E; intro u E0; have E := Lib.hid E0; clear E0) | ((with_reducible refine kn_alloc (o := ⟨some 4, _, _, _, _, _⟩) E.out rfl rfl ?_); clear E; intro g4 u E0 hb0; have E := Lib.hid E0; clear E0 hb0) | ((with_reducible refine kn_box (o := ⟨some 4, _, _, _, _, _⟩) E.out rfl rfl rfl ?_); clear E; intro g4 u E0 hb0; have E := Lib.hid E0; clear E0 hb0) | ((with_reducible refine kn_box_int (o := ⟨some 4, _, _, _, _, _⟩) E.out rfl rfl rfl ?_); clear E; intro g4 u E0 hb0; have E := Lib.hid E0; clear E0 hb0) | ((with_reducible refine kn_box_slice (o := ⟨some 4, _, _, _, _, _⟩) E.out rfl rfl rfl ?_); clear E; intro g4 u E0 hb0; have E := Lib.hid E0; clear E0 hb0) | ((with_reducible refine kn_box_bool (o := ⟨some 4, _, _, _, _, _⟩) E.out rfl rfl rfl ?_); clear E; intro g4 u E0 hb0; have E := Lib.hid E0; clear E0 hb0) | ((with_reducible refine kn_box_func (o := ⟨some 4, _, _, _, _, _⟩) E.out rfl rfl rfl ?_); clear E; intro g4 u E0 hb0; have E := Lib.hid E0; clear E0 hb0))
  refine bodyPost_ret (results_kn2 E.out rfl _ rfl (by rw [i64s_length]; exact hfl.out)) rfl ?_
  exact ⟨rfl, E.out.bel⟩
set_option maxHeartbeats 4000000 in
set_option maxRecDepth 100000 in
theorem rdecN (A : Option Addr) (n c : Nat) (p : Bool) (w : World) (h8 : n ≠ 8) (hm : n ≤ 9223372036854775807) :
    Calls Tryd.prog 9 #[.slice A n c, .bool p] w fun e w' => e = .returned (.tuple #[arr z64, .int .i64 1]) ∧ Below w.heap.size w w' := by
  have E := Lib.hid (Kn.start w)
  have hn8 : ¬ ((n : Int) = 8) := by omega
  have hz64 := Lib.hid (show (i64s z64).length = 64 from rfl)
  clear h8
  go_enter Tryd.func9, Tryd.ntmps9
  go_wp2_with (first
    | ((with_reducible refine kn_stores (g := g4) (vs := i64s z64) E.out rfl rfl rfl rfl ?hy ?hl ?h1 ?_); (case hy => rfl); (case hl => exact ⟨hz64.out, hz64.out⟩); (case h1 => exact i64s_one _); clear E; intro u E0; have E := Lib.hid E0; clear E0)
    | ((with_reducible refine kn_load E.out rfl rfl rfl rfl ?_)) | ((with_reducible refine kn_load_if E.out rfl rfl rfl rfl ?_)) | ((with_reducible refine kn_loads E.out rfl rfl rfl ?_ ?_); (focus (first | rfl | (simp only [i64s_length, u8s_length]; first | rfl | assumption | omega)))) | ((with_reducible refine kn_loads_if E.out rfl rfl rfl ?_ ?_); (focus (first | rfl | (simp only [i64s_length, u8s_length]; first | rfl | assumption | omega)))) | ((with_reducible refine kn_stores E.out rfl rfl rfl rfl rfl ?_ ?_ ?_); (focus (first | exact ⟨rfl, rfl⟩ | (simp only [i64s_length, u8s_length]; refine ⟨?_, ?_⟩ <;> first | rfl | assumption | omega))); (focus (first | exact i64s_one _ | exact u8s_one _ | simp [Value.oneCell'])); clear E; intro u E0; have E := Lib.hid E0; clear E0) | ((with_reducible refine kn_alloc (o := ⟨some 4, _, _, _, _, _⟩) E.out rfl rfl ?_); clear E; intro g4 u E0 hb0; have E := Lib.hid E0; clear E0 hb0) | ((with_reducible refine kn_box (o := ⟨some 4, _, _, _, _, _⟩) E.out rfl rfl rfl ?_); clear E; intro g4 u E0 hb0; have E := Lib.hid E0; clear E0 hb0) | ((with_reducible refine kn_box_int (o := ⟨some 4, _, _, _, _, _⟩) E.out rfl rfl rfl ?_); clear E; intro g4 u E0 hb0; have E := Lib.hid E0; clear E0 hb0) | ((with_reducible refine kn_box_slice (o := ⟨some 4, _, _, _, _, _⟩) E.out rfl rfl rfl ?_); clear E; intro g4 u E0 hb0; have E := Lib.hid E0; clear E0 hb0) | ((with_reducible refine kn_box_bool (o := ⟨some 4, _, _, _, _, _⟩) E.out rfl rfl rfl ?_); clear E; intro g4 u E0 hb0; have E := Lib.hid E0; clear E0 hb0) | ((with_reducible refine kn_box_func (o := ⟨some 4, _, _, _, _, _⟩) E.out rfl rfl rfl ?_); clear E; intro g4 u E0 hb0; have E := Lib.hid E0; clear E0 hb0))
  refine bodyPost_ret (results_kn2 E.out rfl _ rfl (by first | rfl | (rw [i64s_length]; rfl))) rfl ?_
  exact ⟨rfl, E.out.bel⟩
theorem rdecode11 (A : Option Addr) (n c : Nat) (p : Bool) (xs : List Nat) (w : World) (h : Bs w w.heap.size A n xs) (hm : n ≤ 9223372036854775807) :
    Calls Tryd.prog 9 #[.slice A n c, .bool p] w fun e w' => e = .returned (.tuple #[arr (d2V n p xs), .int .i64 (paE n)]) ∧ Below w.heap.size w w' := by
  unfold d2V paE
  by_cases h8 : n = 8
  · subst h8
    rw [if_pos rfl, if_pos rfl]
    by_cases h3 : kdN p xs = 3
    · rw [if_pos h3]
      exact rdecP A c p xs w h h3
    · rw [if_neg h3]
      have hle := kdN_le p xs
      obtain h0 | h1 | h2 : kdN p xs = 0 ∨ kdN p xs = 1 ∨ kdN p xs = 2 := by omega
      · exact rdec0 A c p xs w h h0
      · exact rdecT A c p xs w h h1
      · exact rdecH A c p xs w h h2
  · rw [if_neg h8, if_neg h8]
    exact rdecN A n c p w h8 hm
end Go.Proofs.YtgcijioiicmjiaaDoor
