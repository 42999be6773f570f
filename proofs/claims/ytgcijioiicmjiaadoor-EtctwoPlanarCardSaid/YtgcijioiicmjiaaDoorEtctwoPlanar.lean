/- EtctwoPlanar: a block of Lay is planar, with alpha, too, and of its plane's texels; of one colour it is of it; the tables are as the program's text lays them; no condition besides. -/
import Derived.Test.YtgcijioiicmjiaaDoorRows
import Derived.Test.YtgcijioiicmjiaaDoorCards
import Derived.Test.YtgcijioiicmjiaaDoorTie
import Derived.Test.YtgcijioiicmjiaaDoorE2PlnP
import Derived.Test.YtgcijioiicmjiaaDoorE2Card
import Derived.Test.YtgcijioiicmjiaaDoorG11
import Derived.Test.YtgcijioiicmjiaaDoorOpenArr
import Derived.Deep.DeepCutAuto
import Derived.OpenShut
import Derived.ShutString
import Derived.ChangeOld
import Derived.Below
set_option linter.all false
namespace Go.Proofs.YtgcijioiicmjiaaDoor.etctwoPlanar
open Go.ChangeShapes Go.WideShapes Go.ChangeAt Go.RowKit
open Bi Lv Eo Et

set_option maxHeartbeats 8000000 in
set_option maxRecDepth 100000 in
theorem walk_no (w : World) (hG : Glb w) (zs : List Int) (hl : zs.length = 9) (h : ¬ okZ zs) :
    Calls Tryd.prog 5 #[arr zs] w fun e w' => e = .returned (.bool true) ∧ Below w.heap.size w w' := by
  have E := Lib.hid ((Kn.start w).arg_glb hG)
  obtain ⟨a0, a1, a2, b0, b1, b2, c0, c1, c2, rfl⟩ := list9 zs hl
  have hJ := Lib.hid (fun u hu => show Calls Tryd.prog 14 #[arr [a0, a1, a2], arr [b0, b1, b2], arr [c0, c1, c2]] u (Laid u [] 1) from lay2_no [a0, a1, a2] [b0, b1, b2] [c0, c1, c2] rfl rfl rfl h u hu)
  have p0 := Lib.hid (show (([a0, a1, a2, b0, b1, b2, c0, c1, c2] : List Int).drop 0).take 3 = [a0, a1, a2] from rfl)
  have p3 := Lib.hid (show (([a0, a1, a2, b0, b1, b2, c0, c1, c2] : List Int).drop 3).take 3 = [b0, b1, b2] from rfl)
  have p6 := Lib.hid (show (([a0, a1, a2, b0, b1, b2, c0, c1, c2] : List Int).drop 6).take 3 = [c0, c1, c2] from rfl)
  have hzl := Lib.hid (show ([a0, a1, a2, b0, b1, b2, c0, c1, c2] : List Int).length = 9 from rfl)
  clear h hG hl
  generalize [a0, a1, a2, b0, b1, b2, c0, c1, c2] = zs at *
  go_enter Tryd.func5, Tryd.ntmps5
  go_wp2_with (first
    | (go_at_call 7; refine (awake11 _ (E.out.get (by simp))).mono ?_; rintro e w1 ⟨rfl, hb⟩; have E1 := Lib.hid (E.out.later hb); clear hb E; have E := E1; clear E1)
    | ((with_reducible refine kn_loadp (g := g1) (off := 0) E.out rfl rfl rfl ?hl ?_); (case hl => have := hzl.out; omega); rw [p0.out])
    | ((with_reducible refine kn_loadp (g := g1) (off := 3) E.out rfl rfl rfl ?hl ?_); (case hl => have := hzl.out; omega); rw [p3.out])
    | ((with_reducible refine kn_loadp (g := g1) (off := 6) E.out rfl rfl rfl ?hl ?_); (case hl => have := hzl.out; omega); rw [p6.out])
    | (go_at_call 14; (with_reducible refine (hJ.out _ ?ha).mono ?_); (case ha => exact E.out.get (by simp)); clear hJ; rintro e w1 ⟨A1, n1, k1, rfl, hB1, hn1, hk1, hb⟩; obtain rfl : n1 = 0 := hB1.1.symm; have E1 := Lib.hid (E.out.later hb); clear hb E; have E := E1; clear E1)
    | ((with_reducible refine kn_load E.out rfl rfl rfl rfl ?_)) | ((with_reducible refine kn_load_if E.out rfl rfl rfl rfl ?_)) | ((with_reducible refine kn_loads E.out rfl rfl rfl ?_ ?_); (focus (first | rfl | (simp only [i64s_length, u8s_length]; first | rfl | assumption | omega)))) | ((with_reducible refine kn_loads_if E.out rfl rfl rfl ?_ ?_); (focus (first | rfl | (simp only [i64s_length, u8s_length]; first | rfl | assumption | omega)))) | ((with_reducible refine kn_stores E.out rfl rfl rfl rfl rfl ?_ ?_ ?_); (focus (first | exact ⟨rfl, rfl⟩ | (simp only [i64s_length, u8s_length]; refine ⟨?_, ?_⟩ <;> first | rfl | assumption | omega))); (focus (first | exact i64s_one _ | exact u8s_one _ | simp [Value.oneCell'])); clear E; intro u E0; have E := Lib.hid E0; clear E0) | ((with_reducible refine kn_alloc (o := ⟨some 1, _, _, _, _, _⟩) E.out rfl rfl ?_); clear E; intro g1 u E0 hb0; have E := Lib.hid E0; clear E0 hb0) | ((with_reducible refine kn_box (o := ⟨some 1, _, _, _, _, _⟩) E.out rfl rfl rfl ?_); clear E; intro g1 u E0 hb0; have E := Lib.hid E0; clear E0 hb0) | ((with_reducible refine kn_box_int (o := ⟨some 1, _, _, _, _, _⟩) E.out rfl rfl rfl ?_); clear E; intro g1 u E0 hb0; have E := Lib.hid E0; clear E0 hb0) | ((with_reducible refine kn_box_slice (o := ⟨some 1, _, _, _, _, _⟩) E.out rfl rfl rfl ?_); clear E; intro g1 u E0 hb0; have E := Lib.hid E0; clear E0 hb0) | ((with_reducible refine kn_box_bool (o := ⟨some 1, _, _, _, _, _⟩) E.out rfl rfl rfl ?_); clear E; intro g1 u E0 hb0; have E := Lib.hid E0; clear E0 hb0) | ((with_reducible refine kn_box_func (o := ⟨some 1, _, _, _, _, _⟩) E.out rfl rfl rfl ?_); clear E; intro g1 u E0 hb0; have E := Lib.hid E0; clear E0 hb0))
  go_ret
  exact ⟨rfl, E.out.bel⟩
set_option maxHeartbeats 8000000 in
set_option maxRecDepth 100000 in
theorem walk_ok (w : World) (hG : Glb w) (zs : List Int) (hl : zs.length = 9) (h : okZ zs) :
    Calls Tryd.prog 5 #[arr zs] w fun e w' => e = .returned (.bool true) ∧ Below w.heap.size w w' := by
  have E := Lib.hid ((Kn.start w).arg_glb hG)
  obtain ⟨a0, a1, a2, b0, b1, b2, c0, c1, c2, rfl⟩ := list9 zs hl
  have h1 := okZ_one a0 a1 a2 b0 b1 b2 c0 c1 c2 h
  have hJ := Lib.hid (fun u hu => show Calls Tryd.prog 14 #[arr [a0, a1, a2], arr [b0, b1, b2], arr [c0, c1, c2]] u (Laid u (lB (lL [a0, a1, a2, b0, b1, b2, c0, c1, c2])) 0) from lay2_ok [a0, a1, a2] [b0, b1, b2] [c0, c1, c2] rfl rfl rfl h u hu)
  have hJ1 := Lib.hid (fun u hu => show Calls Tryd.prog 14 #[arr [a0, a1, a2], arr [a0, a1, a2], arr [a0, a1, a2]] u (Laid u (lB (lL [a0, a1, a2, a0, a1, a2, a0, a1, a2])) 0) from lay2_ok [a0, a1, a2] [a0, a1, a2] [a0, a1, a2] rfl rfl rfl h1 u hu)
  have hD := Lib.hid (fun p A c u hu hg => decode_ok2 A c p (lB (lL [a0, a1, a2, b0, b1, b2, c0, c1, c2])) u hu hg)
  have hD1 := Lib.hid (fun A c u hu hg => decode_ok2 A c false (lB (lL [a0, a1, a2, a0, a1, a2, a0, a1, a2])) u hu hg)
  simp only [lB_dec _ h] at hD
  simp only [lB_dec _ h1] at hD1
  have hK := Lib.hid (fun p A c u hu hg => show Calls Tryd.prog 10 #[.slice A 8 c, .bool p] u (fun e w' => e = .returned (.int .i64 3) ∧ Below u.heap.size u w') from by
    have k := kind_ok A c p (lB (lL [a0, a1, a2, b0, b1, b2, c0, c1, c2])) u hu hg
    rw [lB_kind] at k
    exact k)
  have hWo := Lib.hid (fun u => wide11 a0 a1 a2 u)
  have hWh := Lib.hid (fun u => wide11 b0 b1 b2 u)
  have hWv := Lib.hid (fun u => wide11 c0 c1 c2 u)
  have hPl := Lib.hid (fun u => plane2 (colP a0 a1 a2) (colP b0 b1 b2) (colP c0 c1 c2) u rfl rfl rfl (colP_bd _ _ _) (colP_bd _ _ _) (colP_bd _ _ _))
  have hjl := Lib.hid (lB_length (lL [a0, a1, a2, b0, b1, b2, c0, c1, c2]))
  have hjl1 := Lib.hid (lB_length (lL [a0, a1, a2, a0, a1, a2, a0, a1, a2]))
  have hTl := Lib.hid (plV_length (colP a0 a1 a2) (colP b0 b1 b2) (colP c0 c1 c2))
  have hFl := Lib.hid (plV_length (colP a0 a1 a2) (colP a0 a1 a2) (colP a0 a1 a2))
  have hT0 := Lib.hid (pl_first a0 a1 a2 (colP b0 b1 b2) (colP c0 c1 c2))
  have hF := Lib.hid (fun i (hi : i < 16) => pl_flat a0 a1 a2 i hi)
  have hol : (colP a0 a1 a2).length = 4 := rfl
  have hzz := Lib.hid (show (i64s z64).length = 64 from rfl)
  have p0 := Lib.hid (show (([a0, a1, a2, b0, b1, b2, c0, c1, c2] : List Int).drop 0).take 3 = [a0, a1, a2] from rfl)
  have p3 := Lib.hid (show (([a0, a1, a2, b0, b1, b2, c0, c1, c2] : List Int).drop 3).take 3 = [b0, b1, b2] from rfl)
  have p6 := Lib.hid (show (([a0, a1, a2, b0, b1, b2, c0, c1, c2] : List Int).drop 6).take 3 = [c0, c1, c2] from rfl)
  have hzl := Lib.hid (show ([a0, a1, a2, b0, b1, b2, c0, c1, c2] : List Int).length = 9 from rfl)
  have hq : ∀ u, (Op.equalIn 10000 27 (arr (plV (colP a0 a1 a2) (colP b0 b1 b2) (colP c0 c1 c2))) (arr (plV (colP a0 a1 a2) (colP b0 b1 b2) (colP c0 c1 c2)))).run Tryd.prog u = .ok true u := fun u => by
    have k := eq_tile _ _ hTl.out hTl.out u
    rw [beq_self_eq_true] at k
    exact k
  have hqo : ∀ u, (Op.equalIn 10000 25 (arr (colP a0 a1 a2)) (arr (colP a0 a1 a2))).run Tryd.prog u = .ok true u := fun u => by
    have k := eq_texel _ _ hol hol u
    rw [beq_self_eq_true] at k
    exact k
  clear h h1 hG hl
  rw [show lL [a0, a1, a2, b0, b1, b2, c0, c1, c2] 0 = a0 from rfl, show lL [a0, a1, a2, b0, b1, b2, c0, c1, c2] 1 = a1 from rfl, show lL [a0, a1, a2, b0, b1, b2, c0, c1, c2] 2 = a2 from rfl, show lL [a0, a1, a2, b0, b1, b2, c0, c1, c2] 3 = b0 from rfl, show lL [a0, a1, a2, b0, b1, b2, c0, c1, c2] 4 = b1 from rfl, show lL [a0, a1, a2, b0, b1, b2, c0, c1, c2] 5 = b2 from rfl, show lL [a0, a1, a2, b0, b1, b2, c0, c1, c2] 6 = c0 from rfl, show lL [a0, a1, a2, b0, b1, b2, c0, c1, c2] 7 = c1 from rfl, show lL [a0, a1, a2, b0, b1, b2, c0, c1, c2] 8 = c2 from rfl] at hD
  rw [show lL [a0, a1, a2, a0, a1, a2, a0, a1, a2] 0 = a0 from rfl, show lL [a0, a1, a2, a0, a1, a2, a0, a1, a2] 1 = a1 from rfl, show lL [a0, a1, a2, a0, a1, a2, a0, a1, a2] 2 = a2 from rfl, show lL [a0, a1, a2, a0, a1, a2, a0, a1, a2] 3 = a0 from rfl, show lL [a0, a1, a2, a0, a1, a2, a0, a1, a2] 4 = a1 from rfl, show lL [a0, a1, a2, a0, a1, a2, a0, a1, a2] 5 = a2 from rfl, show lL [a0, a1, a2, a0, a1, a2, a0, a1, a2] 6 = a0 from rfl, show lL [a0, a1, a2, a0, a1, a2, a0, a1, a2] 7 = a1 from rfl, show lL [a0, a1, a2, a0, a1, a2, a0, a1, a2] 8 = a2 from rfl] at hD1
  generalize lB (lL [a0, a1, a2, b0, b1, b2, c0, c1, c2]) = JB at *
  generalize lB (lL [a0, a1, a2, a0, a1, a2, a0, a1, a2]) = JC at *
  generalize [a0, a1, a2, b0, b1, b2, c0, c1, c2] = zs at *
  generalize plV (colP a0 a1 a2) (colP b0 b1 b2) (colP c0 c1 c2) = TV at *
  generalize plV (colP a0 a1 a2) (colP a0 a1 a2) (colP a0 a1 a2) = FV at *
  generalize colP a0 a1 a2 = oV at *
  generalize colP b0 b1 b2 = hV at *
  generalize colP c0 c1 c2 = vV at *
  generalize [a0, a1, a2] = xo at *
  generalize [b0, b1, b2] = xh at *
  generalize [c0, c1, c2] = xv at *
  have hol' := Lib.hid hol
  go_enter Tryd.func5, Tryd.ntmps5
  go_upto_region 8 with (first
    | (go_at_call 7; refine (awake11 _ (E.out.get (by simp))).mono ?_; rintro e w1 ⟨rfl, hb⟩; have E1 := Lib.hid (E.out.later hb); clear hb E; have E := E1; clear E1)
    | ((with_reducible refine kn_loadp (g := g1) (off := 0) E.out rfl rfl rfl ?hl ?_); (case hl => have := hzl.out; omega); rw [p0.out])
    | ((with_reducible refine kn_loadp (g := g1) (off := 3) E.out rfl rfl rfl ?hl ?_); (case hl => have := hzl.out; omega); rw [p3.out])
    | ((with_reducible refine kn_loadp (g := g1) (off := 6) E.out rfl rfl rfl ?hl ?_); (case hl => have := hzl.out; omega); rw [p6.out])
    | (go_at_call 14; (with_reducible refine (hJ.out _ ?ha).mono ?_); (case ha => exact E.out.get (by simp)); clear hJ; rintro e w1 ⟨A1, n1, k1, rfl, hB1, hn1, hk1, hb⟩; obtain rfl : n1 = 8 := hB1.1.symm.trans hjl.out; have E1 := Lib.hid (E.out.later hb); clear hb E; have E := E1; clear E1; have E1 := Lib.hid (E.out.new_bsi hB1); clear E hB1; have E := E1; clear E1)
    | (go_at_call 8; (with_reducible refine (hD.out _ _ _ _ ?ha ?hb).mono ?_); (case ha => exact E.out.bs (by simp)); (case hb => exact E.out.get (by simp)); rintro e w2 ⟨rfl, hb⟩; have E1 := Lib.hid (E.out.later hb); clear hb E; have E := E1; clear E1)
    | (go_at_call 19; (with_reducible refine (hWo.out _).mono ?_); rintro e w2 ⟨rfl, hb⟩; have E1 := Lib.hid (E.out.later hb); clear hb E; have E := E1; clear E1)
    | ((with_reducible refine kn_stores (g := g6) (vs := i64s TV) E.out rfl rfl rfl rfl rfl ?hl ?h1 ?_); (case hl => exact ⟨hzz.out, by rw [i64s_length]; exact hTl.out⟩); (case h1 => exact i64s_one _); clear E; intro u E0; have E := Lib.hid E0; clear E0)
    | ((with_reducible refine kn_stores (g := g8) (vs := i64s TV) E.out rfl rfl rfl rfl rfl ?hl ?h1 ?_); (case hl => exact ⟨hzz.out, by rw [i64s_length]; exact hTl.out⟩); (case h1 => exact i64s_one _); clear E; intro u E0; have E := Lib.hid E0; clear E0)
    | ((with_reducible refine kn_stores (g := g10) (vs := i64s oV) E.out rfl rfl rfl rfl rfl ?hl ?h1 ?_); (case hl => exact ⟨rfl, by rw [i64s_length]; exact hol'.out⟩); (case h1 => exact i64s_one _); clear E; intro u E0; have E := Lib.hid E0; clear E0)
    | ((with_reducible refine kn_load E.out rfl rfl rfl rfl ?_)) | ((with_reducible refine kn_load_if E.out rfl rfl rfl rfl ?_)) | ((with_reducible refine kn_loads E.out rfl rfl rfl ?_ ?_); (focus (first | rfl | (simp only [i64s_length, u8s_length]; first | rfl | assumption | omega)))) | ((with_reducible refine kn_loads_if E.out rfl rfl rfl ?_ ?_); (focus (first | rfl | (simp only [i64s_length, u8s_length]; first | rfl | assumption | omega)))) | ((with_reducible refine kn_stores E.out rfl rfl rfl rfl rfl ?_ ?_ ?_); (focus (first | exact ⟨rfl, rfl⟩ | (simp only [i64s_length, u8s_length]; refine ⟨?_, ?_⟩ <;> first | rfl | assumption | omega))); (focus (first | exact i64s_one _ | exact u8s_one _ | simp [Value.oneCell'])); clear E; intro u E0; have E := Lib.hid E0; clear E0) | ((with_reducible refine kn_alloc (o := ⟨some 1, _, _, _, _, _⟩) E.out rfl rfl ?_); clear E; intro g1 u E0 hb0; have E := Lib.hid E0; clear E0 hb0) | ((with_reducible refine kn_box (o := ⟨some 1, _, _, _, _, _⟩) E.out rfl rfl rfl ?_); clear E; intro g1 u E0 hb0; have E := Lib.hid E0; clear E0 hb0) | ((with_reducible refine kn_box_int (o := ⟨some 1, _, _, _, _, _⟩) E.out rfl rfl rfl ?_); clear E; intro g1 u E0 hb0; have E := Lib.hid E0; clear E0 hb0) | ((with_reducible refine kn_box_slice (o := ⟨some 1, _, _, _, _, _⟩) E.out rfl rfl rfl ?_); clear E; intro g1 u E0 hb0; have E := Lib.hid E0; clear E0 hb0) | ((with_reducible refine kn_box_bool (o := ⟨some 1, _, _, _, _, _⟩) E.out rfl rfl rfl ?_); clear E; intro g1 u E0 hb0; have E := Lib.hid E0; clear E0 hb0) | ((with_reducible refine kn_box_func (o := ⟨some 1, _, _, _, _, _⟩) E.out rfl rfl rfl ?_); clear E; intro g1 u E0 hb0; have E := Lib.hid E0; clear E0 hb0) | ((with_reducible refine kn_alloc (o := ⟨some 6, _, _, _, _, _⟩) E.out rfl rfl ?_); clear E; intro g6 u E0 hb0; have E := Lib.hid E0; clear E0 hb0) | ((with_reducible refine kn_box (o := ⟨some 6, _, _, _, _, _⟩) E.out rfl rfl rfl ?_); clear E; intro g6 u E0 hb0; have E := Lib.hid E0; clear E0 hb0) | ((with_reducible refine kn_box_int (o := ⟨some 6, _, _, _, _, _⟩) E.out rfl rfl rfl ?_); clear E; intro g6 u E0 hb0; have E := Lib.hid E0; clear E0 hb0) | ((with_reducible refine kn_box_slice (o := ⟨some 6, _, _, _, _, _⟩) E.out rfl rfl rfl ?_); clear E; intro g6 u E0 hb0; have E := Lib.hid E0; clear E0 hb0) | ((with_reducible refine kn_box_bool (o := ⟨some 6, _, _, _, _, _⟩) E.out rfl rfl rfl ?_); clear E; intro g6 u E0 hb0; have E := Lib.hid E0; clear E0 hb0) | ((with_reducible refine kn_box_func (o := ⟨some 6, _, _, _, _, _⟩) E.out rfl rfl rfl ?_); clear E; intro g6 u E0 hb0; have E := Lib.hid E0; clear E0 hb0) | ((with_reducible refine kn_alloc (o := ⟨some 8, _, _, _, _, _⟩) E.out rfl rfl ?_); clear E; intro g8 u E0 hb0; have E := Lib.hid E0; clear E0 hb0) | ((with_reducible refine kn_box (o := ⟨some 8, _, _, _, _, _⟩) E.out rfl rfl rfl ?_); clear E; intro g8 u E0 hb0; have E := Lib.hid E0; clear E0 hb0) | ((with_reducible refine kn_box_int (o := ⟨some 8, _, _, _, _, _⟩) E.out rfl rfl rfl ?_); clear E; intro g8 u E0 hb0; have E := Lib.hid E0; clear E0 hb0) | ((with_reducible refine kn_box_slice (o := ⟨some 8, _, _, _, _, _⟩) E.out rfl rfl rfl ?_); clear E; intro g8 u E0 hb0; have E := Lib.hid E0; clear E0 hb0) | ((with_reducible refine kn_box_bool (o := ⟨some 8, _, _, _, _, _⟩) E.out rfl rfl rfl ?_); clear E; intro g8 u E0 hb0; have E := Lib.hid E0; clear E0 hb0) | ((with_reducible refine kn_box_func (o := ⟨some 8, _, _, _, _, _⟩) E.out rfl rfl rfl ?_); clear E; intro g8 u E0 hb0; have E := Lib.hid E0; clear E0 hb0) | ((with_reducible refine kn_alloc (o := ⟨some 10, _, _, _, _, _⟩) E.out rfl rfl ?_); clear E; intro g10 u E0 hb0; have E := Lib.hid E0; clear E0 hb0) | ((with_reducible refine kn_box (o := ⟨some 10, _, _, _, _, _⟩) E.out rfl rfl rfl ?_); clear E; intro g10 u E0 hb0; have E := Lib.hid E0; clear E0 hb0) | ((with_reducible refine kn_box_int (o := ⟨some 10, _, _, _, _, _⟩) E.out rfl rfl rfl ?_); clear E; intro g10 u E0 hb0; have E := Lib.hid E0; clear E0 hb0) | ((with_reducible refine kn_box_slice (o := ⟨some 10, _, _, _, _, _⟩) E.out rfl rfl rfl ?_); clear E; intro g10 u E0 hb0; have E := Lib.hid E0; clear E0 hb0) | ((with_reducible refine kn_box_bool (o := ⟨some 10, _, _, _, _, _⟩) E.out rfl rfl rfl ?_); clear E; intro g10 u E0 hb0; have E := Lib.hid E0; clear E0 hb0) | ((with_reducible refine kn_box_func (o := ⟨some 10, _, _, _, _, _⟩) E.out rfl rfl rfl ?_); clear E; intro g10 u E0 hb0; have E := Lib.hid E0; clear E0 hb0))
  (try simp only [Act.put, List.setIfInBounds_toArray, List.set_cons_zero, List.set_cons_succ])
  go_cut [11] from 53 to 60 (fun s11 wx => ∃ gw : Nat, s11 = .pointer (some ⟨gw, 0, none⟩) ∧ Hid (Kn w [.row gw 27 (i64s TV), .row g10 25 (i64s oV), .row g8 27 (i64s TV), .row g6 27 (i64s TV), .row g1 35 (i64s zs)] [bsF A1 8 JB, Glb] wx))
  case first =>
    refine wp_region_held_drew (S := Kn w [.row g10 25 (i64s oV), .row g1 35 (i64s zs)] []) (by kernel_rfl) (E.out.drew.part _ _ (by repeat (first | exact List.Sublist.refl _ | apply List.Sublist.cons_cons | apply List.Sublist.cons)) (by simp)) (fun kS => ?_)
    have E1 := Lib.hid E.out.drew
    generalize World.drew _ = u1 at kS E1 ⊢
    clear E
    have E := E1
    clear E1
    (refine takeL (i := 0) (v := _) rfl (by kernel_rfl) (by kernel_rfl) (by kernel_rfl) (fun _ _ _ h => h) (yield_loads (g := g10) rfl rfl rfl (by rw [i64s_length]; exact hol'.out)) kS ?_; (try simp only [Act.put, List.setIfInBounds_toArray, List.set_cons_zero, List.set_cons_succ]))
    (refine takeL (i := 1) (v := _) rfl (by kernel_rfl) (by kernel_rfl) (by kernel_rfl) (fun _ _ _ h => h) (by first | exact Or.inl ⟨by rfl, (by intro u hSu; clear hSu; go_simp; try with_reducible rfl)⟩ | exact Or.inr ⟨by rfl, rfl⟩) kS ?_; (try simp only [Act.put, List.setIfInBounds_toArray, List.set_cons_zero, List.set_cons_succ]))
    (refine takeL (i := 2) (v := arr xh) rfl (by kernel_rfl) (by kernel_rfl) (by kernel_rfl) (fun _ _ _ h => h) (by rw [← p3.out]; exact yield_loadp (g := g1) (off := 3) rfl rfl rfl (by have := hzl.out; omega)) kS ?_; (try simp only [Act.put, List.setIfInBounds_toArray, List.set_cons_zero, List.set_cons_succ]))
    (refine takeL (i := 4) (v := _) rfl (by kernel_rfl) (by kernel_rfl) (by kernel_rfl) (fun _ _ _ h => h) (by first | exact Or.inl ⟨by rfl, (by intro u hSu; clear hSu; go_simp; try with_reducible rfl)⟩ | exact Or.inr ⟨by rfl, rfl⟩) kS ?_; (try simp only [Act.put, List.setIfInBounds_toArray, List.set_cons_zero, List.set_cons_succ]))
    (refine takeL (i := 5) (v := arr xv) rfl (by kernel_rfl) (by kernel_rfl) (by kernel_rfl) (fun _ _ _ h => h) (by rw [← p6.out]; exact yield_loadp (g := g1) (off := 6) rfl rfl rfl (by have := hzl.out; omega)) kS ?_; (try simp only [Act.put, List.setIfInBounds_toArray, List.set_cons_zero, List.set_cons_succ]))
    refine callL2 (i := 3) (j := 8) rfl rfl (by kernel_rfl) (fun K hK => ?_) (fun K hK => ?_)
    · (rw [if_pos (by rfl)]; go_simp; (with_reducible refine (hWh.out _).mono ?_); rintro e' w1 ⟨rfl, hb⟩; have E1 := Lib.hid (E.out.later hb); clear hb E; have E := E1; clear E1; go_wp2_with fail; (refine hK.out _ _ (E.out.part _ _ (by repeat (first | exact List.Sublist.refl _ | apply List.Sublist.cons_cons | apply List.Sublist.cons)) (by simp)) (fun kS => ?_); clear hK K; (try simp only [Act.put, List.setIfInBounds_toArray, List.set_cons_zero, List.set_cons_succ])))
      refine callL2 (i := 6) (j := 8) rfl rfl (by kernel_rfl) (fun K hK => ?_) (fun K hK => ?_)
      · (rw [if_pos (by rfl)]; go_simp; (with_reducible refine (hWv.out _).mono ?_); rintro e' w1 ⟨rfl, hb⟩; have E1 := Lib.hid (E.out.later hb); clear hb E; have E := E1; clear E1; go_wp2_with fail; (refine hK.out _ _ (E.out.part _ _ (by repeat (first | exact List.Sublist.refl _ | apply List.Sublist.cons_cons | apply List.Sublist.cons)) (by simp)) (fun kS => ?_); clear hK K; (try simp only [Act.put, List.setIfInBounds_toArray, List.set_cons_zero, List.set_cons_succ])))
        refine callL2 (i := 7) (j := 8) rfl rfl (by kernel_rfl) (fun K hK => ?_) (fun K hK => ?_)
        · (rw [if_pos (by rfl)]; go_simp; (with_reducible refine (hPl.out _).mono ?_); rintro e' w1 ⟨rfl, hb⟩; have E1 := Lib.hid (E.out.later hb); clear hb E; have E := E1; clear E1; go_wp2_with fail; (refine hK.out _ _ (E.out.part _ _ (by repeat (first | exact List.Sublist.refl _ | apply List.Sublist.cons_cons | apply List.Sublist.cons)) (by simp)) (fun kS => ?_); clear hK K; (try simp only [Act.put, List.setIfInBounds_toArray, List.set_cons_zero, List.set_cons_succ])))
          refine callL (i := 8) rfl (by kernel_rfl) (fun K hK => ?_)
          (rw [if_pos (by rfl)]; refine wp_kn_alloc E.out rfl ?_; clear E kS; intro gw u E0; have E := Lib.hid E0; clear E0; (refine hK.out _ _ (E.out.part _ _ (by repeat (first | exact List.Sublist.refl _ | apply List.Sublist.cons_cons | apply List.Sublist.cons)) (by simp)) (fun kS => ?_); clear hK K; (try simp only [Act.put, List.setIfInBounds_toArray, List.set_cons_zero, List.set_cons_succ])))
          refine callL (i := 9) rfl (by kernel_rfl) (fun K hK => ?_)
          (rw [if_pos (by rfl)]; refine wp_kn_stores (g := gw) (vs := i64s TV) E.out rfl rfl rfl rfl (by exact ⟨hzz.out, by rw [i64s_length]; exact hTl.out⟩) (i64s_one _) ?_; clear E kS; intro u E0; have E := Lib.hid E0; clear E0; (refine hK.out _ _ (E.out.part _ _ (by repeat (first | exact List.Sublist.refl _ | apply List.Sublist.cons_cons | apply List.Sublist.cons)) (by simp)) (fun kS => ?_); clear hK K; (try simp only [Act.put, List.setIfInBounds_toArray, List.set_cons_zero, List.set_cons_succ])))
          refine wpAnyH_done (by kernel_rfl) ?_ _
          go_wp2_with fail
          go_meet
          exact ⟨gw, rfl, E.out.part _ _ (by repeat (first | exact List.Sublist.refl _ | apply List.Sublist.cons_cons | apply List.Sublist.cons)) (by simp)⟩
        · (rw [if_pos (by rfl)]; refine wp_kn_alloc E.out rfl ?_; clear E kS; intro gw u E0; have E := Lib.hid E0; clear E0; (refine hK.out _ _ (E.out.part _ _ (by repeat (first | exact List.Sublist.refl _ | apply List.Sublist.cons_cons | apply List.Sublist.cons)) (by simp)) (fun kS => ?_); clear hK K; (try simp only [Act.put, List.setIfInBounds_toArray, List.set_cons_zero, List.set_cons_succ])))
          refine callL (i := 7) rfl (by kernel_rfl) (fun K hK => ?_)
          (rw [if_pos (by rfl)]; go_simp; (with_reducible refine (hPl.out _).mono ?_); rintro e' w1 ⟨rfl, hb⟩; have E1 := Lib.hid (E.out.later hb); clear hb E; have E := E1; clear E1; go_wp2_with fail; (refine hK.out _ _ (E.out.part _ _ (by repeat (first | exact List.Sublist.refl _ | apply List.Sublist.cons_cons | apply List.Sublist.cons)) (by simp)) (fun kS => ?_); clear hK K; (try simp only [Act.put, List.setIfInBounds_toArray, List.set_cons_zero, List.set_cons_succ])))
          refine callL (i := 9) rfl (by kernel_rfl) (fun K hK => ?_)
          (rw [if_pos (by rfl)]; refine wp_kn_stores (g := gw) (vs := i64s TV) E.out rfl rfl rfl rfl (by exact ⟨hzz.out, by rw [i64s_length]; exact hTl.out⟩) (i64s_one _) ?_; clear E kS; intro u E0; have E := Lib.hid E0; clear E0; (refine hK.out _ _ (E.out.part _ _ (by repeat (first | exact List.Sublist.refl _ | apply List.Sublist.cons_cons | apply List.Sublist.cons)) (by simp)) (fun kS => ?_); clear hK K; (try simp only [Act.put, List.setIfInBounds_toArray, List.set_cons_zero, List.set_cons_succ])))
          refine wpAnyH_done (by kernel_rfl) ?_ _
          go_wp2_with fail
          go_meet
          exact ⟨gw, rfl, E.out.part _ _ (by repeat (first | exact List.Sublist.refl _ | apply List.Sublist.cons_cons | apply List.Sublist.cons)) (by simp)⟩
      · (rw [if_pos (by rfl)]; refine wp_kn_alloc E.out rfl ?_; clear E kS; intro gw u E0; have E := Lib.hid E0; clear E0; (refine hK.out _ _ (E.out.part _ _ (by repeat (first | exact List.Sublist.refl _ | apply List.Sublist.cons_cons | apply List.Sublist.cons)) (by simp)) (fun kS => ?_); clear hK K; (try simp only [Act.put, List.setIfInBounds_toArray, List.set_cons_zero, List.set_cons_succ])))
        refine callL (i := 6) rfl (by kernel_rfl) (fun K hK => ?_)
        (rw [if_pos (by rfl)]; go_simp; (with_reducible refine (hWv.out _).mono ?_); rintro e' w1 ⟨rfl, hb⟩; have E1 := Lib.hid (E.out.later hb); clear hb E; have E := E1; clear E1; go_wp2_with fail; (refine hK.out _ _ (E.out.part _ _ (by repeat (first | exact List.Sublist.refl _ | apply List.Sublist.cons_cons | apply List.Sublist.cons)) (by simp)) (fun kS => ?_); clear hK K; (try simp only [Act.put, List.setIfInBounds_toArray, List.set_cons_zero, List.set_cons_succ])))
        refine callL (i := 7) rfl (by kernel_rfl) (fun K hK => ?_)
        (rw [if_pos (by rfl)]; go_simp; (with_reducible refine (hPl.out _).mono ?_); rintro e' w1 ⟨rfl, hb⟩; have E1 := Lib.hid (E.out.later hb); clear hb E; have E := E1; clear E1; go_wp2_with fail; (refine hK.out _ _ (E.out.part _ _ (by repeat (first | exact List.Sublist.refl _ | apply List.Sublist.cons_cons | apply List.Sublist.cons)) (by simp)) (fun kS => ?_); clear hK K; (try simp only [Act.put, List.setIfInBounds_toArray, List.set_cons_zero, List.set_cons_succ])))
        refine callL (i := 9) rfl (by kernel_rfl) (fun K hK => ?_)
        (rw [if_pos (by rfl)]; refine wp_kn_stores (g := gw) (vs := i64s TV) E.out rfl rfl rfl rfl (by exact ⟨hzz.out, by rw [i64s_length]; exact hTl.out⟩) (i64s_one _) ?_; clear E kS; intro u E0; have E := Lib.hid E0; clear E0; (refine hK.out _ _ (E.out.part _ _ (by repeat (first | exact List.Sublist.refl _ | apply List.Sublist.cons_cons | apply List.Sublist.cons)) (by simp)) (fun kS => ?_); clear hK K; (try simp only [Act.put, List.setIfInBounds_toArray, List.set_cons_zero, List.set_cons_succ])))
        refine wpAnyH_done (by kernel_rfl) ?_ _
        go_wp2_with fail
        go_meet
        exact ⟨gw, rfl, E.out.part _ _ (by repeat (first | exact List.Sublist.refl _ | apply List.Sublist.cons_cons | apply List.Sublist.cons)) (by simp)⟩
    · (rw [if_pos (by rfl)]; refine wp_kn_alloc E.out rfl ?_; clear E kS; intro gw u E0; have E := Lib.hid E0; clear E0; (refine hK.out _ _ (E.out.part _ _ (by repeat (first | exact List.Sublist.refl _ | apply List.Sublist.cons_cons | apply List.Sublist.cons)) (by simp)) (fun kS => ?_); clear hK K; (try simp only [Act.put, List.setIfInBounds_toArray, List.set_cons_zero, List.set_cons_succ])))
      refine callL (i := 3) rfl (by kernel_rfl) (fun K hK => ?_)
      (rw [if_pos (by rfl)]; go_simp; (with_reducible refine (hWh.out _).mono ?_); rintro e' w1 ⟨rfl, hb⟩; have E1 := Lib.hid (E.out.later hb); clear hb E; have E := E1; clear E1; go_wp2_with fail; (refine hK.out _ _ (E.out.part _ _ (by repeat (first | exact List.Sublist.refl _ | apply List.Sublist.cons_cons | apply List.Sublist.cons)) (by simp)) (fun kS => ?_); clear hK K; (try simp only [Act.put, List.setIfInBounds_toArray, List.set_cons_zero, List.set_cons_succ])))
      refine callL (i := 6) rfl (by kernel_rfl) (fun K hK => ?_)
      (rw [if_pos (by rfl)]; go_simp; (with_reducible refine (hWv.out _).mono ?_); rintro e' w1 ⟨rfl, hb⟩; have E1 := Lib.hid (E.out.later hb); clear hb E; have E := E1; clear E1; go_wp2_with fail; (refine hK.out _ _ (E.out.part _ _ (by repeat (first | exact List.Sublist.refl _ | apply List.Sublist.cons_cons | apply List.Sublist.cons)) (by simp)) (fun kS => ?_); clear hK K; (try simp only [Act.put, List.setIfInBounds_toArray, List.set_cons_zero, List.set_cons_succ])))
      refine callL (i := 7) rfl (by kernel_rfl) (fun K hK => ?_)
      (rw [if_pos (by rfl)]; go_simp; (with_reducible refine (hPl.out _).mono ?_); rintro e' w1 ⟨rfl, hb⟩; have E1 := Lib.hid (E.out.later hb); clear hb E; have E := E1; clear E1; go_wp2_with fail; (refine hK.out _ _ (E.out.part _ _ (by repeat (first | exact List.Sublist.refl _ | apply List.Sublist.cons_cons | apply List.Sublist.cons)) (by simp)) (fun kS => ?_); clear hK K; (try simp only [Act.put, List.setIfInBounds_toArray, List.set_cons_zero, List.set_cons_succ])))
      refine callL (i := 9) rfl (by kernel_rfl) (fun K hK => ?_)
      (rw [if_pos (by rfl)]; refine wp_kn_stores (g := gw) (vs := i64s TV) E.out rfl rfl rfl rfl (by exact ⟨hzz.out, by rw [i64s_length]; exact hTl.out⟩) (i64s_one _) ?_; clear E kS; intro u E0; have E := Lib.hid E0; clear E0; (refine hK.out _ _ (E.out.part _ _ (by repeat (first | exact List.Sublist.refl _ | apply List.Sublist.cons_cons | apply List.Sublist.cons)) (by simp)) (fun kS => ?_); clear hK K; (try simp only [Act.put, List.setIfInBounds_toArray, List.set_cons_zero, List.set_cons_succ])))
      refine wpAnyH_done (by kernel_rfl) ?_ _
      go_wp2_with fail
      go_meet
      exact ⟨gw, rfl, E.out.part _ _ (by repeat (first | exact List.Sublist.refl _ | apply List.Sublist.cons_cons | apply List.Sublist.cons)) (by simp)⟩
  case rest =>
    clear E
    obtain ⟨gw, rfl, E⟩ := hcut
    go_wp2_with (first
      | (go_at_call 14; (with_reducible refine (hJ1.out _ ?ha).mono ?_); (case ha => exact E.out.get (by simp)); clear hJ1; rintro e w1 ⟨A2, n2, k2, rfl, hB2, hn2, hk2, hb⟩; obtain rfl : n2 = 8 := hB2.1.symm.trans hjl1.out; have E1 := Lib.hid (E.out.later hb); clear hb E; have E := E1; clear E1; have E1 := Lib.hid (E.out.new_bsi hB2); clear E hB2; have E := E1; clear E1)
      | (go_at_call 8; (with_reducible refine (hD1.out _ _ _ ?ha ?hb).mono ?_); (case ha => exact E.out.bs (by simp)); (case hb => exact E.out.get (by simp)); rintro e w2 ⟨rfl, hb⟩; have E1 := Lib.hid (E.out.later hb); clear hb E; have E := E1; clear E1)
      | (go_at_call 10; (with_reducible refine (hK.out _ _ _ _ ?ha ?hb).mono ?_); (case ha => exact E.out.bs (by simp)); (case hb => exact E.out.get (by simp)); rintro e w2 ⟨rfl, hb⟩; have E1 := Lib.hid (E.out.later hb); clear hb E; have E := E1; clear E1)
      | ((with_reducible refine kn_loads_if (g := g6) E.out rfl rfl rfl ?hl ?_); (case hl => rw [i64s_length]; exact hTl.out))
      | ((with_reducible refine kn_loads_if (g := g8) E.out rfl rfl rfl ?hl ?_); (case hl => rw [i64s_length]; exact hTl.out))
      | ((with_reducible refine kn_loads_if (g := gw) E.out rfl rfl rfl ?hl ?_); (case hl => rw [i64s_length]; exact hTl.out))
      | ((with_reducible refine kn_loads_if (g := g10) E.out rfl rfl rfl ?hl ?_); (case hl => rw [i64s_length]; exact hol'.out))
      | ((with_reducible refine kn_loadp_if (g := g6) (off := 0) E.out rfl rfl rfl ?hl ?_); (case hl => have := hTl.out; omega); rw [hT0.out])
      | ((with_reducible refine kn_loadp (g := g1) (off := 0) E.out rfl rfl rfl ?hl ?_); (case hl => have := hzl.out; omega); rw [p0.out])
      | ((with_reducible refine kn_stores (g := g14) (vs := i64s FV) E.out rfl rfl rfl rfl rfl ?hl ?h1 ?_); (case hl => exact ⟨hzz.out, by rw [i64s_length]; exact hFl.out⟩); (case h1 => exact i64s_one _); clear E; intro u E0; have E := Lib.hid E0; clear E0)
      | ((with_reducible refine kn_load E.out rfl rfl rfl rfl ?_)) | ((with_reducible refine kn_load_if E.out rfl rfl rfl rfl ?_)) | ((with_reducible refine kn_loads E.out rfl rfl rfl ?_ ?_); (focus (first | rfl | (simp only [i64s_length, u8s_length]; first | rfl | assumption | omega)))) | ((with_reducible refine kn_loads_if E.out rfl rfl rfl ?_ ?_); (focus (first | rfl | (simp only [i64s_length, u8s_length]; first | rfl | assumption | omega)))) | ((with_reducible refine kn_stores E.out rfl rfl rfl rfl rfl ?_ ?_ ?_); (focus (first | exact ⟨rfl, rfl⟩ | (simp only [i64s_length, u8s_length]; refine ⟨?_, ?_⟩ <;> first | rfl | assumption | omega))); (focus (first | exact i64s_one _ | exact u8s_one _ | simp [Value.oneCell'])); clear E; intro u E0; have E := Lib.hid E0; clear E0) | ((with_reducible refine kn_alloc (o := ⟨some 14, _, _, _, _, _⟩) E.out rfl rfl ?_); clear E; intro g14 u E0 hb0; have E := Lib.hid E0; clear E0 hb0) | ((with_reducible refine kn_box (o := ⟨some 14, _, _, _, _, _⟩) E.out rfl rfl rfl ?_); clear E; intro g14 u E0 hb0; have E := Lib.hid E0; clear E0 hb0) | ((with_reducible refine kn_box_int (o := ⟨some 14, _, _, _, _, _⟩) E.out rfl rfl rfl ?_); clear E; intro g14 u E0 hb0; have E := Lib.hid E0; clear E0 hb0) | ((with_reducible refine kn_box_slice (o := ⟨some 14, _, _, _, _, _⟩) E.out rfl rfl rfl ?_); clear E; intro g14 u E0 hb0; have E := Lib.hid E0; clear E0 hb0) | ((with_reducible refine kn_box_bool (o := ⟨some 14, _, _, _, _, _⟩) E.out rfl rfl rfl ?_); clear E; intro g14 u E0 hb0; have E := Lib.hid E0; clear E0 hb0) | ((with_reducible refine kn_box_func (o := ⟨some 14, _, _, _, _, _⟩) E.out rfl rfl rfl ?_); clear E; intro g14 u E0 hb0; have E := Lib.hid E0; clear E0 hb0))
    go_loopw [16] (fun ck wr => ∃ i : Nat, i ≤ 16 ∧ ck = .int .i64 (i : Int) ∧ Hid (Kn w [.row g14 27 (i64s FV), .row g10 25 (i64s oV)] [] wr)) (fun ck _ => 16 - (intOf ck).toNat)
    case atStart => exact ⟨0, by omega, rfl, E.out.part _ _ (by repeat (first | exact List.Sublist.refl _ | apply List.Sublist.cons_cons | apply List.Sublist.cons)) (by simp)⟩
    case round =>
      clear E
      obtain ⟨i, hi, rfl, E⟩ := hrel
      by_cases hlt : i < 16
      · have hi3 : (i : Int) < 16 := by omega
        have hf := Lib.hid (hF.out i hlt)
        have hfl : i * 4 + 4 ≤ FV.length := by have := hFl.out; omega
        go_wp2_with (first | ((with_reducible refine kn_load E.out rfl rfl rfl rfl ?_)) | ((with_reducible refine kn_load_if E.out rfl rfl rfl rfl ?_)) | ((with_reducible refine kn_loads E.out rfl rfl rfl ?_ ?_); (focus (first | rfl | (simp only [i64s_length, u8s_length]; first | rfl | assumption | omega)))) | ((with_reducible refine kn_loads_if E.out rfl rfl rfl ?_ ?_); (focus (first | rfl | (simp only [i64s_length, u8s_length]; first | rfl | assumption | omega)))) | ((with_reducible refine kn_stores E.out rfl rfl rfl rfl rfl ?_ ?_ ?_); (focus (first | exact ⟨rfl, rfl⟩ | (simp only [i64s_length, u8s_length]; refine ⟨?_, ?_⟩ <;> first | rfl | assumption | omega))); (focus (first | exact i64s_one _ | exact u8s_one _ | simp [Value.oneCell'])); clear E; intro u E0; have E := Lib.hid E0; clear E0))
        refine wp_region_held_drew (S := Kn w [.row g14 27 (i64s FV), .row g10 25 (i64s oV)] []) (by kernel_rfl) (E.out.drew.part _ _ (by repeat (first | exact List.Sublist.refl _ | apply List.Sublist.cons_cons | apply List.Sublist.cons)) (by simp)) (fun kS => ?_)
        have E1 := Lib.hid E.out.drew
        generalize World.drew _ = u1 at kS E1 ⊢
        clear E
        have E := E1
        clear E1
        (refine takeL (i := 0) (v := _) rfl (by kernel_rfl) (by kernel_rfl) (by kernel_rfl) (fun _ _ _ h => h) (by first | exact Or.inl ⟨by rfl, (by intro u hSu; clear hSu; go_simp; try with_reducible rfl)⟩ | exact Or.inr ⟨by rfl, rfl⟩) kS ?_; (try simp only [Act.put, List.setIfInBounds_toArray, List.set_cons_zero, List.set_cons_succ])); (refine takeL (i := 1) (v := _) rfl (by kernel_rfl) (by kernel_rfl) (by kernel_rfl) (fun _ _ _ h => h) (by first | exact Or.inl ⟨by rfl, (by intro u hSu; clear hSu; go_simp; try with_reducible rfl)⟩ | exact Or.inr ⟨by rfl, rfl⟩) kS ?_; (try simp only [Act.put, List.setIfInBounds_toArray, List.set_cons_zero, List.set_cons_succ]))
        (refine takeL (i := 2) (v := arr oV) rfl (by kernel_rfl) (by kernel_rfl) (by kernel_rfl) (fun _ _ _ h => h) (by rw [← hf.out]; exact yield_loadp (g := g14) (off := i * 4) rfl rfl rfl hfl) kS ?_; (try simp only [Act.put, List.setIfInBounds_toArray, List.set_cons_zero, List.set_cons_succ]))
        (refine takeL (i := 3) (v := arr oV) rfl (by kernel_rfl) (by kernel_rfl) (by kernel_rfl) (fun _ _ _ h => h) (yield_loads (g := g10) rfl rfl rfl (by rw [i64s_length]; exact hol'.out)) kS ?_; (try simp only [Act.put, List.setIfInBounds_toArray, List.set_cons_zero, List.set_cons_succ]))
        (refine takeL (i := 4) (v := _) rfl (by kernel_rfl) (by kernel_rfl) (by kernel_rfl) (fun _ _ _ h => h) (by first | exact Or.inl ⟨by rfl, (by intro u hSu; clear hSu; go_simp; try with_reducible rfl)⟩ | exact Or.inr ⟨by rfl, rfl⟩) kS ?_; (try simp only [Act.put, List.setIfInBounds_toArray, List.set_cons_zero, List.set_cons_succ]))
        refine wpAnyH_done (by kernel_rfl) ?_ _
        go_wp2_with (first | ((with_reducible refine kn_load E.out rfl rfl rfl rfl ?_)) | ((with_reducible refine kn_load_if E.out rfl rfl rfl rfl ?_)) | ((with_reducible refine kn_loads E.out rfl rfl rfl ?_ ?_); (focus (first | rfl | (simp only [i64s_length, u8s_length]; first | rfl | assumption | omega)))) | ((with_reducible refine kn_loads_if E.out rfl rfl rfl ?_ ?_); (focus (first | rfl | (simp only [i64s_length, u8s_length]; first | rfl | assumption | omega)))) | ((with_reducible refine kn_stores E.out rfl rfl rfl rfl rfl ?_ ?_ ?_); (focus (first | exact ⟨rfl, rfl⟩ | (simp only [i64s_length, u8s_length]; refine ⟨?_, ?_⟩ <;> first | rfl | assumption | omega))); (focus (first | exact i64s_one _ | exact u8s_one _ | simp [Value.oneCell'])); clear E; intro u E0; have E := Lib.hid E0; clear E0))
        go_roundw
        case rel => exact ⟨i + 1, by omega, by go_num, E.out.part _ _ (by repeat (first | exact List.Sublist.refl _ | apply List.Sublist.cons_cons | apply List.Sublist.cons)) (by simp)⟩
        case measure => simp [intOf]; try omega
      · have hi3 : ¬ ((i : Int) < 16) := by omega
        go_wp2_with (first | ((with_reducible refine kn_load E.out rfl rfl rfl rfl ?_)) | ((with_reducible refine kn_load_if E.out rfl rfl rfl rfl ?_)) | ((with_reducible refine kn_loads E.out rfl rfl rfl ?_ ?_); (focus (first | rfl | (simp only [i64s_length, u8s_length]; first | rfl | assumption | omega)))) | ((with_reducible refine kn_loads_if E.out rfl rfl rfl ?_ ?_); (focus (first | rfl | (simp only [i64s_length, u8s_length]; first | rfl | assumption | omega)))) | ((with_reducible refine kn_stores E.out rfl rfl rfl rfl rfl ?_ ?_ ?_); (focus (first | exact ⟨rfl, rfl⟩ | (simp only [i64s_length, u8s_length]; refine ⟨?_, ?_⟩ <;> first | rfl | assumption | omega))); (focus (first | exact i64s_one _ | exact u8s_one _ | simp [Value.oneCell'])); clear E; intro u E0; have E := Lib.hid E0; clear E0))
        go_ret
        exact ⟨rfl, E.out.bel⟩
theorem walk (w : World) (hG : Glb w) (zs : List Int) (hl : zs.length = 9) (_ : ∀ z ∈ zs, -9223372036854775808 ≤ z ∧ z ≤ 9223372036854775807) :
    Calls Tryd.prog 5 #[arr zs] w fun e w' => e = .returned (.bool true) ∧ Below w.heap.size w w' := by
  by_cases h : okZ zs
  · exact walk_ok w hG zs hl h
  · exact walk_no w hG zs hl h

theorem laidOut : laidOutB Tryd.prog = true := by kernel_rfl
set_option maxRecDepth 100000 in
theorem contract (H : Type) (enc : TypeId × Value → H) (W : World) (base : Nat) (args : Array Value) (ds gs : List (DataW H)) (before : List MemPlace)
    (hval0 : ∀ (j : Nat) t v, Tryd.f5.params[j]? = some t → args[j]? = some v → Value.okWide Tryd.prog W .any base t v)
    (hW : DataW.Whole enc Tryd.prog Tryd.f5.params.toList Rows.etctwoPlanarSpec.vars false W args.toList ds gs before) (hL : laidMetH Tryd.prog Rows.etctwoPlanarRow.laid W) :
    Calls Tryd.prog 5 args W fun e W' => ∃ v, e = .returned v ∧ Rows.etctwoPlanarSpec.post enc Tryd.prog Tryd.f5 false true false false W args v W' := by
  have hval : ∀ (j : Nat) t v, Tryd.f5.params[j]? = some t → args[j]? = some v → Value.okWide Tryd.prog W .any base t v := hval0
  have hW' := hW
  obtain ⟨p, q, hA0, hV, rfl, hfz, hnd⟩ := hW
  have hA : DataW.TrodAll enc Tryd.prog W 0 (fun _ => true) true Tryd.f5.params.toList args.toList ds p := hA0
  rw [Tryd.params5] at hA hval
  obtain ⟨v0, vs0, d0, ds0, p0, q0, hargs, rfl, rfl, h0, r0⟩ := trodAll_cons hA
  obtain ⟨rfl, rfl, rfl⟩ := trodAll_nil r0
  obtain rfl : args = #[v0] := by cases args; simp_all
  have lt0 : ∀ x ∈ p0, x.block < W.heap.size := by obtain ⟨m, hm⟩ := h0; exact DataW.trod_lt m _ _ _ hm
  obtain ⟨rfl, rfl⟩ := trodVars_none hV
  obtain ⟨zs0, rfl, hl0, hz0⟩ := open_flat Tryd.underlying35 (Flat.array (n := 3) (m := 3) Tryd.underlying35 (by kernel_rfl) (by omega) (Flat.array (n := 3) (m := 1) Tryd.underlying34 (by kernel_rfl) (by omega) (Flat.int Tryd.underlying3 (by kernel_rfl)))) (hval 0 35 v0 rfl rfl) h0
  clear hA0 hval0
  refine (walk W (tabs hL) zs0 hl0 hz0).mono fun e W' ⟨he, bel⟩ => ?_
  subst he
  exact ⟨_, rfl, _, _, _, [], _, [], hW', trodAll_mk1 (shut_bool Tryd.underlying4 _), (trodAll_cons_mk (Below.trod laidOut (by kernel_rfl) (of_decide_eq_true (by kernel_rfl)) h0 bel lt0) trodAll_mk0), rfl, bel.frame _, fun h => by cases h⟩

theorem reads (os : Os) {H : Type} (enc : TypeId × Value → H) : ∃ places, DataW.whole enc Tryd.prog ((laidWorld os).forCall (fun _ _ => 0) ⟨#[], #[.agg #[.int .i64 0, .int .i64 0, .int .i64 0, .int .i64 0, .int .i64 0, .int .i64 0, .int .i64 0, .int .i64 0, .int .i64 0]], []⟩).memory Tryd.f5.params.toList Rows.etctwoPlanarSpec.vars false (#[.agg #[.int .i64 0, .int .i64 0, .int .i64 0, .int .i64 0, .int .i64 0, .int .i64 0, .int .i64 0, .int .i64 0, .int .i64 0]] : Array Value).toList 8 = some ([.agg [.agg [.lit (.int .i64 0), .lit (.int .i64 0), .lit (.int .i64 0)], .agg [.lit (.int .i64 0), .lit (.int .i64 0), .lit (.int .i64 0)], .agg [.lit (.int .i64 0), .lit (.int .i64 0), .lit (.int .i64 0)]]], [], places) :=
  ⟨[], by kernel_rfl⟩

set_option maxRecDepth 100000 in
theorem lifted (os : Os) (started : os.Started) (H : Type) (enc : TypeId × Value → H) (F : Stop.Interp) :
    ReturnsInHanded {} Tryd.checked os 5 .any ((OpenSpec.ofChange Rows.etctwoPlanarSpec).preRow enc Tryd.prog Tryd.f5 Rows.etctwoPlanarRow.domain false Rows.etctwoPlanarRow.laid) (((OpenSpec.ofChange Rows.etctwoPlanarSpec).at F).post enc Tryd.prog Tryd.f5 false true false false) := by
  obtain ⟨places, hx⟩ := reads os enc
  refine returnsInHanded_of_row (C := Tryd.checked) (s := OpenSpec.ofChange Rows.etctwoPlanarSpec) own started (by kernel_rfl) Tryd.func5
    (witness_row_at (enc := enc) (C := Tryd.checked) false (laidWorld os) #[.agg #[.int .i64 0, .int .i64 0, .int .i64 0, .int .i64 0, .int .i64 0, .int .i64 0, .int .i64 0, .int .i64 0, .int .i64 0]] rfl (by kernel_rfl) (by kernel_rfl) (by kernel_rfl)
      (OpenSpec.preRow_of_cond 8 hx (by kernel_rfl) (fun k hk => by cases hk) (by kernel_rfl) (laid_met os _))) ?_
  intro W base args ds gs before hval hW _ _ _ hL _ _
  exact contract H enc W base args ds gs before hval hW hL

theorem said : Rows.EtctwoPlanarSaid :=
  OpenClaim.holds_of_cond 5 Tryd.f5 rfl rfl rfl rfl rfl rfl rfl ⟨rfl, rfl, rfl, rfl, rfl⟩ rfl rfl rfl rfl rfl (by kernel_rfl) Tryd.func5 (by kernel_rfl)
    (of_decide_eq_true (by kernel_rfl)) (by unfold Func.isWrapper; first | (rw [if_pos (by decide +kernel)]; kernel_rfl) | (rw [if_neg (by decide +kernel)]; exact ⟨rfl, rfl⟩))
    (fun os started H enc _ F => by rw [OpenClaim.pre_eq_preRow]; exact lifted os started H enc F)

theorem plain (f : FuncId) (fn : Func) (hf : Tryd.pinned.checked.prog.funcNamed "swatch/swatchlaw11.EtctwoPlanar" = some f) (hfn : Tryd.pinned.checked.prog.funcs[f]? = some fn) :
    false = Tryd.pinned.checked.prog.looks [] ∧ ∀ (j : Nat) t, fn.params[j]? = some t → Tryd.pinned.checked.prog.wantsStandIn t = false := by
  obtain rfl : f = 5 := Option.some.inj ((show Tryd.prog.funcNamed "swatch/swatchlaw11.EtctwoPlanar" = some 5 by kernel_rfl).symm.trans hf) |>.symm
  obtain rfl : fn = Tryd.f5 := (Option.some.inj (Tryd.func5.symm.trans hfn)).symm
  refine ⟨by kernel_rfl, fun j t ht => ?_⟩
  rw [Tryd.params5] at ht
  have hm := Array.mem_of_getElem? ht
  simp only [List.mem_toArray, List.mem_cons, List.not_mem_nil, or_false] at hm
  obtain rfl := hm
  exact (show Tryd.prog.wantsStandIn 35 = false by kernel_rfl)

theorem card : Rows.EtctwoPlanarCardSaid :=
  Claim7.holds_tied_plain_at .later [] _ _ _ _ said (fun _ h => by cases h) (by kernel_rfl) (fun _ h => by cases h) etctwoPlanar_row_tie rfl ⟨rfl, rfl⟩ (by kernel_rfl) rfl plain (by kernel_rfl)
end Go.Proofs.YtgcijioiicmjiaaDoor.etctwoPlanar

namespace Go.Proofs.YtgcijioiicmjiaaDoor
theorem etctwoPlanar_holds : Rows.EtctwoPlanarCardSaid := etctwoPlanar.card
#print axioms etctwoPlanar_holds
end Go.Proofs.YtgcijioiicmjiaaDoor
