/- EtctwoLays: the planar block of any three colours, and the texels between any three, are the document's; the tables are as the program's text lays them; no condition besides. -/
import Derived.Test.YtgcijioiicmjiaaDoorRows
import Derived.Test.YtgcijioiicmjiaaDoorCards
import Derived.Test.YtgcijioiicmjiaaDoorTie
import Derived.Test.YtgcijioiicmjiaaDoorE2Awake
import Derived.Test.YtgcijioiicmjiaaDoorE2Card
import Derived.Test.YtgcijioiicmjiaaDoorE2Rlay
import Derived.Test.YtgcijioiicmjiaaDoorE2Rpl
import Derived.Test.YtgcijioiicmjiaaDoorG11
import Derived.Test.YtgcijioiicmjiaaDoorOpenArr
import Derived.OpenShut
import Derived.ShutString
import Derived.ChangeOld
import Derived.Below
set_option linter.all false
namespace Go.Proofs.YtgcijioiicmjiaaDoor.etctwoLays
open Go.ChangeShapes Go.WideShapes Go.ChangeAt Go.RowKit
open Bi Lv Eo Et

theorem same_self (A1 A2 : Option Addr) (m c1 c2 : Nat) (ys : List Nat) (u : World) (h1 : Bs u u.heap.size A1 m ys) (h2 : Bs u u.heap.size A2 m ys) (hm : m ≤ 9223372036854775807) : Calls Tryd.prog 16 #[.slice A1 m c1, .slice A2 m c2] u (Told true u) := by
  have k := same_any A1 A2 m m c1 c2 ys ys _ _ u h1 h2 hm
  rw [show decide (ys = ys) = true from by simp] at k
  exact k
theorem part_bd (ms : List Int) (h : ∀ k, k < 12 → 0 ≤ ms.getD k 0 ∧ ms.getD k 0 ≤ 255) (i : Nat) (hi : i < 3) (j : Nat) : 0 ≤ ((ms.drop (i * 4)).take 4).getD j 0 ∧ ((ms.drop (i * 4)).take 4).getD j 0 ≤ 255 := by
  by_cases hj : j < 4
  · rw [part_getD _ _ _ hj]
    exact h _ (by omega)
  · rw [List.getD_eq_getElem?_getD, List.getElem?_eq_none (by rw [List.length_take]; omega)]
    show (0 : Int) ≤ 0 ∧ (0 : Int) ≤ 255
    omega
theorem lay_le (zs : List Int) : (layX zs).length ≤ 8 := by
  unfold layX
  split
  · rw [lB_length]; omega
  · simp
set_option maxHeartbeats 8000000 in
set_option maxRecDepth 100000 in
theorem walk_ok (w : World) (hG : Glb w) (zs ms : List Int) (hl : zs.length = 9) (hml : ms.length = 12) (hall : ∀ k, k < 12 → 0 ≤ ms.getD k 0 ∧ ms.getD k 0 ≤ 255) :
    Calls Tryd.prog 4 #[arr zs, arr ms] w fun e w' => e = .returned (.bool true) ∧ Below w.heap.size w w' := by
  have E := Lib.hid ((Kn.start w).arg_glb hG)
  obtain ⟨a0, a1, a2, b0, b1, b2, c0', c1, c2, rfl⟩ := list9 zs hl
  have hJ := Lib.hid (fun u hu => lay2_any [a0, a1, a2] [b0, b1, b2] [c0', c1, c2] rfl rfl rfl u hu)
  have hR := Lib.hid (fun u => rlay11 [a0, a1, a2] [b0, b1, b2] [c0', c1, c2] rfl rfl rfl u)
  have hle := lay_le (zsL [a0, a1, a2] [b0, b1, b2] [c0', c1, c2])
  have p0 := Lib.hid (show (([a0, a1, a2, b0, b1, b2, c0', c1, c2] : List Int).drop 0).take 3 = [a0, a1, a2] from rfl)
  have p3 := Lib.hid (show (([a0, a1, a2, b0, b1, b2, c0', c1, c2] : List Int).drop 3).take 3 = [b0, b1, b2] from rfl)
  have p6 := Lib.hid (show (([a0, a1, a2, b0, b1, b2, c0', c1, c2] : List Int).drop 6).take 3 = [c0', c1, c2] from rfl)
  have hzl := Lib.hid (show ([a0, a1, a2, b0, b1, b2, c0', c1, c2] : List Int).length = 9 from rfl)
  have hSa := Lib.hid (fun A1 A2 m q1 q2 u h1 h2 hm => same_self A1 A2 m q1 q2 (layX (zsL [a0, a1, a2] [b0, b1, b2] [c0', c1, c2])) u h1 h2 hm)
  have hPl := Lib.hid (fun u => plane2 ((ms.drop 0).take 4) ((ms.drop 4).take 4) ((ms.drop 8).take 4) u (by rw [List.length_take, List.length_drop]; omega) (by rw [List.length_take, List.length_drop]; omega) (by rw [List.length_take, List.length_drop]; omega) (part_bd ms hall 0 (by omega)) (part_bd ms hall 1 (by omega)) (part_bd ms hall 2 (by omega)))
  have hRl := Lib.hid (fun u => rplane11 ((ms.drop 0).take 4) ((ms.drop 4).take 4) ((ms.drop 8).take 4) u (by rw [List.length_take, List.length_drop]; omega) (by rw [List.length_take, List.length_drop]; omega) (by rw [List.length_take, List.length_drop]; omega) (part_bd ms hall 0 (by omega)) (part_bd ms hall 1 (by omega)) (part_bd ms hall 2 (by omega)))
  have hq : ∀ u, (Op.equalIn 10000 27 (arr (plV ((ms.drop 0).take 4) ((ms.drop 4).take 4) ((ms.drop 8).take 4))) (arr (plV ((ms.drop 0).take 4) ((ms.drop 4).take 4) ((ms.drop 8).take 4)))).run Tryd.prog u = .ok true u := fun u => by
    have k := eq_tile _ _ (plV_length ((ms.drop 0).take 4) ((ms.drop 4).take 4) ((ms.drop 8).take 4)) (plV_length ((ms.drop 0).take 4) ((ms.drop 4).take 4) ((ms.drop 8).take 4)) u
    rw [beq_self_eq_true] at k
    exact k
  generalize plV ((ms.drop 0).take 4) ((ms.drop 4).take 4) ((ms.drop 8).take 4) = PV at *
  obtain ⟨mo, hmo⟩ : ∃ z, (ms.drop 0).take 4 = z := ⟨_, rfl⟩
  obtain ⟨mh, hmh⟩ : ∃ z, (ms.drop 4).take 4 = z := ⟨_, rfl⟩
  obtain ⟨mv, hmv⟩ : ∃ z, (ms.drop 8).take 4 = z := ⟨_, rfl⟩
  rw [hmo, hmh, hmv] at hPl hRl
  replace hmo := Lib.hid hmo
  replace hmh := Lib.hid hmh
  replace hmv := Lib.hid hmv
  replace hall := Lib.hid hall
  clear hG hl
  generalize layX (zsL [a0, a1, a2] [b0, b1, b2] [c0', c1, c2]) = LX at *
  generalize layY (zsL [a0, a1, a2] [b0, b1, b2] [c0', c1, c2]) = LY at *
  generalize [a0, a1, a2, b0, b1, b2, c0', c1, c2] = zs at *
  generalize [a0, a1, a2] = xo at *
  generalize [b0, b1, b2] = xh at *
  generalize [c0', c1, c2] = xv at *
  go_enter Tryd.func4, Tryd.ntmps4
  go_wp2_with (first
    | (go_at_call 7; refine (awake11 _ (E.out.get (by simp))).mono ?_; rintro e w1 ⟨rfl, hb⟩; have E1 := Lib.hid (E.out.later hb); clear hb E; have E := E1; clear E1)
    | ((with_reducible refine kn_loadp (g := g2) (off := 0) E.out rfl rfl rfl ?hl ?_); (case hl => have := hzl.out; omega); rw [p0.out])
    | ((with_reducible refine kn_loadp (g := g2) (off := 3) E.out rfl rfl rfl ?hl ?_); (case hl => have := hzl.out; omega); rw [p3.out])
    | ((with_reducible refine kn_loadp (g := g2) (off := 6) E.out rfl rfl rfl ?hl ?_); (case hl => have := hzl.out; omega); rw [p6.out])
    | (go_at_call 14; (with_reducible refine (hJ.out _ ?ha).mono ?_); (case ha => exact E.out.get (by simp)); clear hJ; rintro e w1 ⟨A1, n1, k1, rfl, hB1, hn1, hk1, hb⟩; obtain rfl := hB1.1; have E1 := Lib.hid (E.out.later hb); clear hb E; have E := E1; clear E1; have E1 := Lib.hid (E.out.new_bsi hB1); clear E hB1; have E := E1; clear E1)
    | (go_at_call 15; (with_reducible refine (hR.out _).mono ?_); clear hR; rintro e w1 ⟨A2, n2, k2, rfl, hB2, hn2, hk2, hb⟩; obtain rfl := hB2.1; have E1 := Lib.hid (E.out.later hb); clear hb E; have E := E1; clear E1; have E1 := Lib.hid (E.out.new_bsi hB2); clear E hB2; have E := E1; clear E1)
    | (go_at_call 16; (with_reducible refine (hSa.out _ _ _ _ _ _ ?ha ?hb ?hc).mono ?_); (case ha => exact E.out.bs (by simp)); (case hb => exact E.out.bs (by simp)); (case hc => omega); clear hSa; rintro e w4 h4; have hb := h4.below; obtain ⟨rfl, -⟩ := h4; have E1 := Lib.hid (E.out.later hb); clear hb E; have E := E1; clear E1)
    | ((with_reducible refine kn_load E.out rfl rfl rfl rfl ?_)) | ((with_reducible refine kn_load_if E.out rfl rfl rfl rfl ?_)) | ((with_reducible refine kn_loads E.out rfl rfl rfl ?_ ?_); (focus (first | rfl | (simp only [i64s_length, u8s_length]; first | rfl | assumption | omega)))) | ((with_reducible refine kn_loads_if E.out rfl rfl rfl ?_ ?_); (focus (first | rfl | (simp only [i64s_length, u8s_length]; first | rfl | assumption | omega)))) | ((with_reducible refine kn_stores E.out rfl rfl rfl rfl rfl ?_ ?_ ?_); (focus (first | exact ⟨rfl, rfl⟩ | (simp only [i64s_length, u8s_length]; refine ⟨?_, ?_⟩ <;> first | rfl | assumption | omega))); (focus (first | exact i64s_one _ | exact u8s_one _ | simp [Value.oneCell'])); clear E; intro u E0; have E := Lib.hid E0; clear E0) | ((with_reducible refine kn_alloc (o := ⟨some 2, _, _, _, _, _⟩) E.out rfl rfl ?_); clear E; intro g2 u E0 hb0; have E := Lib.hid E0; clear E0 hb0) | ((with_reducible refine kn_box (o := ⟨some 2, _, _, _, _, _⟩) E.out rfl rfl rfl ?_); clear E; intro g2 u E0 hb0; have E := Lib.hid E0; clear E0 hb0) | ((with_reducible refine kn_box_int (o := ⟨some 2, _, _, _, _, _⟩) E.out rfl rfl rfl ?_); clear E; intro g2 u E0 hb0; have E := Lib.hid E0; clear E0 hb0) | ((with_reducible refine kn_box_slice (o := ⟨some 2, _, _, _, _, _⟩) E.out rfl rfl rfl ?_); clear E; intro g2 u E0 hb0; have E := Lib.hid E0; clear E0 hb0) | ((with_reducible refine kn_box_bool (o := ⟨some 2, _, _, _, _, _⟩) E.out rfl rfl rfl ?_); clear E; intro g2 u E0 hb0; have E := Lib.hid E0; clear E0 hb0) | ((with_reducible refine kn_box_func (o := ⟨some 2, _, _, _, _, _⟩) E.out rfl rfl rfl ?_); clear E; intro g2 u E0 hb0; have E := Lib.hid E0; clear E0 hb0) | ((with_reducible refine kn_alloc (o := ⟨some 3, _, _, _, _, _⟩) E.out rfl rfl ?_); clear E; intro g3 u E0 hb0; have E := Lib.hid E0; clear E0 hb0) | ((with_reducible refine kn_box (o := ⟨some 3, _, _, _, _, _⟩) E.out rfl rfl rfl ?_); clear E; intro g3 u E0 hb0; have E := Lib.hid E0; clear E0 hb0) | ((with_reducible refine kn_box_int (o := ⟨some 3, _, _, _, _, _⟩) E.out rfl rfl rfl ?_); clear E; intro g3 u E0 hb0; have E := Lib.hid E0; clear E0 hb0) | ((with_reducible refine kn_box_slice (o := ⟨some 3, _, _, _, _, _⟩) E.out rfl rfl rfl ?_); clear E; intro g3 u E0 hb0; have E := Lib.hid E0; clear E0 hb0) | ((with_reducible refine kn_box_bool (o := ⟨some 3, _, _, _, _, _⟩) E.out rfl rfl rfl ?_); clear E; intro g3 u E0 hb0; have E := Lib.hid E0; clear E0 hb0) | ((with_reducible refine kn_box_func (o := ⟨some 3, _, _, _, _, _⟩) E.out rfl rfl rfl ?_); clear E; intro g3 u E0 hb0; have E := Lib.hid E0; clear E0 hb0))
  go_loopw [11] (fun ck wr => ∃ i : Nat, i ≤ 3 ∧ ck = .int .i64 (i : Int) ∧ Hid (Kn w [.row g3 36 (i64s ms)] [] wr)) (fun ck _ => 3 - (intOf ck).toNat)
  case atStart => exact ⟨0, by omega, rfl, E.out.part _ _ (by repeat (first | exact List.Sublist.refl _ | apply List.Sublist.cons_cons | apply List.Sublist.cons)) (by simp)⟩
  case round =>
    clear E
    obtain ⟨i, hi, rfl, E⟩ := hrel
    by_cases hlt : i < 3
    · have hi3 : (i : Int) < 3 := by omega
      go_wp2_with (first | ((with_reducible refine kn_load E.out rfl rfl rfl rfl ?_)) | ((with_reducible refine kn_load_if E.out rfl rfl rfl rfl ?_)) | ((with_reducible refine kn_loads E.out rfl rfl rfl ?_ ?_); (focus (first | rfl | (simp only [i64s_length, u8s_length]; first | rfl | assumption | omega)))) | ((with_reducible refine kn_loads_if E.out rfl rfl rfl ?_ ?_); (focus (first | rfl | (simp only [i64s_length, u8s_length]; first | rfl | assumption | omega)))) | ((with_reducible refine kn_stores E.out rfl rfl rfl rfl rfl ?_ ?_ ?_); (focus (first | exact ⟨rfl, rfl⟩ | (simp only [i64s_length, u8s_length]; refine ⟨?_, ?_⟩ <;> first | rfl | assumption | omega))); (focus (first | exact i64s_one _ | exact u8s_one _ | simp [Value.oneCell'])); clear E; intro u E0; have E := Lib.hid E0; clear E0))
      go_loopw [12] (fun ck wr => ∃ c : Nat, (c ≤ 4) ∧ ck = .int .i64 (c : Int) ∧ Hid (Kn w [.row g3 36 (i64s ms)] [] wr)) (fun ck _ => 4 - (intOf ck).toNat)
      case atStart => exact ⟨0, by omega, rfl, E⟩
      case round =>
        clear E
        obtain ⟨c, hc, rfl, E⟩ := hrel
        by_cases hltc : c < 4
        · have hc4 : (c : Int) < 4 := by omega
          have hy := i64s_get ms (i * 4 + c) (by omega)
          have hyb := hall.out (i * 4 + c) (by omega)
          obtain ⟨y, hye⟩ : ∃ z, ms.getD (i * 4 + c) 0 = z := ⟨_, rfl⟩
          rw [hye] at hy hyb
          replace hy := Lib.hid hy
          have y1 : ¬ y < 0 := by omega
          have y2 : ¬ 255 < y := by omega
          clear hyb hye
          go_wp2_with (first
            | ((with_reducible refine kn_load (g := g3) (i := i * 4 + c) E.out rfl rfl rfl hy.out ?_))
            | ((with_reducible refine kn_load_if (g := g3) (i := i * 4 + c) E.out rfl rfl rfl hy.out ?_))
            | ((with_reducible refine kn_load E.out rfl rfl rfl rfl ?_)) | ((with_reducible refine kn_load_if E.out rfl rfl rfl rfl ?_)) | ((with_reducible refine kn_loads E.out rfl rfl rfl ?_ ?_); (focus (first | rfl | (simp only [i64s_length, u8s_length]; first | rfl | assumption | omega)))) | ((with_reducible refine kn_loads_if E.out rfl rfl rfl ?_ ?_); (focus (first | rfl | (simp only [i64s_length, u8s_length]; first | rfl | assumption | omega)))) | ((with_reducible refine kn_stores E.out rfl rfl rfl rfl rfl ?_ ?_ ?_); (focus (first | exact ⟨rfl, rfl⟩ | (simp only [i64s_length, u8s_length]; refine ⟨?_, ?_⟩ <;> first | rfl | assumption | omega))); (focus (first | exact i64s_one _ | exact u8s_one _ | simp [Value.oneCell'])); clear E; intro u E0; have E := Lib.hid E0; clear E0))
          go_roundw
          case rel => exact ⟨c + 1, by omega, by go_num, E⟩
          case measure => simp [intOf]; try omega
        · have hc4 : ¬ ((c : Int) < 4) := by omega
          go_wp2_with (first | ((with_reducible refine kn_load E.out rfl rfl rfl rfl ?_)) | ((with_reducible refine kn_load_if E.out rfl rfl rfl rfl ?_)) | ((with_reducible refine kn_loads E.out rfl rfl rfl ?_ ?_); (focus (first | rfl | (simp only [i64s_length, u8s_length]; first | rfl | assumption | omega)))) | ((with_reducible refine kn_loads_if E.out rfl rfl rfl ?_ ?_); (focus (first | rfl | (simp only [i64s_length, u8s_length]; first | rfl | assumption | omega)))) | ((with_reducible refine kn_stores E.out rfl rfl rfl rfl rfl ?_ ?_ ?_); (focus (first | exact ⟨rfl, rfl⟩ | (simp only [i64s_length, u8s_length]; refine ⟨?_, ?_⟩ <;> first | rfl | assumption | omega))); (focus (first | exact i64s_one _ | exact u8s_one _ | simp [Value.oneCell'])); clear E; intro u E0; have E := Lib.hid E0; clear E0))
          go_roundw
          case rel => exact ⟨i + 1, by omega, by go_num, E⟩
          case measure => simp [intOf]; try omega
    · have hi3 : ¬ ((i : Int) < 3) := by omega
      go_wp2_with (first | ((with_reducible refine kn_load E.out rfl rfl rfl rfl ?_)) | ((with_reducible refine kn_load_if E.out rfl rfl rfl rfl ?_)) | ((with_reducible refine kn_loads E.out rfl rfl rfl ?_ ?_); (focus (first | rfl | (simp only [i64s_length, u8s_length]; first | rfl | assumption | omega)))) | ((with_reducible refine kn_loads_if E.out rfl rfl rfl ?_ ?_); (focus (first | rfl | (simp only [i64s_length, u8s_length]; first | rfl | assumption | omega)))) | ((with_reducible refine kn_stores E.out rfl rfl rfl rfl rfl ?_ ?_ ?_); (focus (first | exact ⟨rfl, rfl⟩ | (simp only [i64s_length, u8s_length]; refine ⟨?_, ?_⟩ <;> first | rfl | assumption | omega))); (focus (first | exact i64s_one _ | exact u8s_one _ | simp [Value.oneCell'])); clear E; intro u E0; have E := Lib.hid E0; clear E0))
      refine wp_region_held_drew (S := Kn w [.row g3 36 (i64s ms)] []) (by kernel_rfl) (E.out.drew.part _ _ (by repeat (first | exact List.Sublist.refl _ | apply List.Sublist.cons_cons | apply List.Sublist.cons)) (by simp)) (fun kS => ?_)
      have E1 := Lib.hid E.out.drew
      generalize World.drew _ = u1 at kS E1 ⊢
      clear E
      have E := E1
      clear E1
      (refine takeL (i := 0) (v := _) rfl (by kernel_rfl) (by kernel_rfl) (by kernel_rfl) (fun _ _ _ h => h) (by first | exact Or.inl ⟨by rfl, (by intro u hSu; clear hSu; go_simp; try with_reducible rfl)⟩ | exact Or.inr ⟨by rfl, rfl⟩) kS ?_; (try simp only [Act.put, List.setIfInBounds_toArray, List.set_cons_zero, List.set_cons_succ])); (refine takeL (i := 1) (v := _) rfl (by kernel_rfl) (by kernel_rfl) (by kernel_rfl) (fun _ _ _ h => h) (by first | exact Or.inl ⟨by rfl, (by intro u hSu; clear hSu; go_simp; try with_reducible rfl)⟩ | exact Or.inr ⟨by rfl, rfl⟩) kS ?_; (try simp only [Act.put, List.setIfInBounds_toArray, List.set_cons_zero, List.set_cons_succ])); (refine takeL (i := 2) (v := _) rfl (by kernel_rfl) (by kernel_rfl) (by kernel_rfl) (fun _ _ _ h => h) (by first | exact Or.inl ⟨by rfl, (by intro u hSu; clear hSu; go_simp; try with_reducible rfl)⟩ | exact Or.inr ⟨by rfl, rfl⟩) kS ?_; (try simp only [Act.put, List.setIfInBounds_toArray, List.set_cons_zero, List.set_cons_succ]))
      (refine takeL (i := 3) (v := arr mo) rfl (by kernel_rfl) (by kernel_rfl) (by kernel_rfl) (fun _ _ _ h => h) (by rw [← hmo.out]; exact yield_loadp (g := g3) (off := 0) rfl rfl rfl (by omega)) kS ?_; (try simp only [Act.put, List.setIfInBounds_toArray, List.set_cons_zero, List.set_cons_succ]))
      (refine takeL (i := 4) (v := _) rfl (by kernel_rfl) (by kernel_rfl) (by kernel_rfl) (fun _ _ _ h => h) (by first | exact Or.inl ⟨by rfl, (by intro u hSu; clear hSu; go_simp; try with_reducible rfl)⟩ | exact Or.inr ⟨by rfl, rfl⟩) kS ?_; (try simp only [Act.put, List.setIfInBounds_toArray, List.set_cons_zero, List.set_cons_succ]))
      (refine takeL (i := 5) (v := arr mh) rfl (by kernel_rfl) (by kernel_rfl) (by kernel_rfl) (fun _ _ _ h => h) (by rw [← hmh.out]; exact yield_loadp (g := g3) (off := 4) rfl rfl rfl (by omega)) kS ?_; (try simp only [Act.put, List.setIfInBounds_toArray, List.set_cons_zero, List.set_cons_succ]))
      (refine takeL (i := 6) (v := _) rfl (by kernel_rfl) (by kernel_rfl) (by kernel_rfl) (fun _ _ _ h => h) (by first | exact Or.inl ⟨by rfl, (by intro u hSu; clear hSu; go_simp; try with_reducible rfl)⟩ | exact Or.inr ⟨by rfl, rfl⟩) kS ?_; (try simp only [Act.put, List.setIfInBounds_toArray, List.set_cons_zero, List.set_cons_succ]))
      (refine takeL (i := 7) (v := arr mv) rfl (by kernel_rfl) (by kernel_rfl) (by kernel_rfl) (fun _ _ _ h => h) (by rw [← hmv.out]; exact yield_loadp (g := g3) (off := 8) rfl rfl rfl (by omega)) kS ?_; (try simp only [Act.put, List.setIfInBounds_toArray, List.set_cons_zero, List.set_cons_succ]))
      (refine takeL (i := 9) (v := _) rfl (by kernel_rfl) (by kernel_rfl) (by kernel_rfl) (fun _ _ _ h => h) (by first | exact Or.inl ⟨by rfl, (by intro u hSu; clear hSu; go_simp; try with_reducible rfl)⟩ | exact Or.inr ⟨by rfl, rfl⟩) kS ?_; (try simp only [Act.put, List.setIfInBounds_toArray, List.set_cons_zero, List.set_cons_succ]))
      (refine takeL (i := 10) (v := arr mo) rfl (by kernel_rfl) (by kernel_rfl) (by kernel_rfl) (fun _ _ _ h => h) (by rw [← hmo.out]; exact yield_loadp (g := g3) (off := 0) rfl rfl rfl (by omega)) kS ?_; (try simp only [Act.put, List.setIfInBounds_toArray, List.set_cons_zero, List.set_cons_succ]))
      (refine takeL (i := 11) (v := _) rfl (by kernel_rfl) (by kernel_rfl) (by kernel_rfl) (fun _ _ _ h => h) (by first | exact Or.inl ⟨by rfl, (by intro u hSu; clear hSu; go_simp; try with_reducible rfl)⟩ | exact Or.inr ⟨by rfl, rfl⟩) kS ?_; (try simp only [Act.put, List.setIfInBounds_toArray, List.set_cons_zero, List.set_cons_succ]))
      (refine takeL (i := 12) (v := arr mh) rfl (by kernel_rfl) (by kernel_rfl) (by kernel_rfl) (fun _ _ _ h => h) (by rw [← hmh.out]; exact yield_loadp (g := g3) (off := 4) rfl rfl rfl (by omega)) kS ?_; (try simp only [Act.put, List.setIfInBounds_toArray, List.set_cons_zero, List.set_cons_succ]))
      (refine takeL (i := 13) (v := _) rfl (by kernel_rfl) (by kernel_rfl) (by kernel_rfl) (fun _ _ _ h => h) (by first | exact Or.inl ⟨by rfl, (by intro u hSu; clear hSu; go_simp; try with_reducible rfl)⟩ | exact Or.inr ⟨by rfl, rfl⟩) kS ?_; (try simp only [Act.put, List.setIfInBounds_toArray, List.set_cons_zero, List.set_cons_succ]))
      (refine takeL (i := 14) (v := arr mv) rfl (by kernel_rfl) (by kernel_rfl) (by kernel_rfl) (fun _ _ _ h => h) (by rw [← hmv.out]; exact yield_loadp (g := g3) (off := 8) rfl rfl rfl (by omega)) kS ?_; (try simp only [Act.put, List.setIfInBounds_toArray, List.set_cons_zero, List.set_cons_succ]))
      refine callL (i := 8) rfl (by kernel_rfl) (fun K hK => ?_)
      (rw [if_pos (by rfl)]; go_simp; (with_reducible refine (hPl.out _).mono ?_); clear hPl; rintro e' w1 ⟨rfl, hb⟩; have E1 := Lib.hid (E.out.later hb); clear hb E; have E := E1; clear E1; go_wp2_with fail; (refine hK.out _ _ (E.out.part _ _ (by repeat (first | exact List.Sublist.refl _ | apply List.Sublist.cons_cons | apply List.Sublist.cons)) (by simp)) (fun kS => ?_); clear hK K; (try simp only [Act.put, List.setIfInBounds_toArray, List.set_cons_zero, List.set_cons_succ])))
      refine callL (i := 15) rfl (by kernel_rfl) (fun K hK => ?_)
      (rw [if_pos (by rfl)]; go_simp; (with_reducible refine (hRl.out _).mono ?_); clear hRl; rintro e' w1 ⟨rfl, hb⟩; have E1 := Lib.hid (E.out.later hb); clear hb E; have E := E1; clear E1; go_wp2_with fail; (refine hK.out _ _ (E.out.part _ _ (by repeat (first | exact List.Sublist.refl _ | apply List.Sublist.cons_cons | apply List.Sublist.cons)) (by simp)) (fun kS => ?_); clear hK K; (try simp only [Act.put, List.setIfInBounds_toArray, List.set_cons_zero, List.set_cons_succ])))
      (refine takeL (i := 16) (v := _) rfl (by kernel_rfl) (by kernel_rfl) (by kernel_rfl) (fun _ _ _ h => h) (by first | exact Or.inl ⟨by rfl, (by intro u hSu; clear hSu; go_simp; try with_reducible rfl)⟩ | exact Or.inr ⟨by rfl, rfl⟩) kS ?_; (try simp only [Act.put, List.setIfInBounds_toArray, List.set_cons_zero, List.set_cons_succ])); (refine takeL (i := 17) (v := _) rfl (by kernel_rfl) (by kernel_rfl) (by kernel_rfl) (fun _ _ _ h => h) (by first | exact Or.inl ⟨by rfl, (by intro u hSu; clear hSu; go_simp; try with_reducible rfl)⟩ | exact Or.inr ⟨by rfl, rfl⟩) kS ?_; (try simp only [Act.put, List.setIfInBounds_toArray, List.set_cons_zero, List.set_cons_succ])); (refine takeL (i := 18) (v := _) rfl (by kernel_rfl) (by kernel_rfl) (by kernel_rfl) (fun _ _ _ h => h) (by first | exact Or.inl ⟨by rfl, (by intro u hSu; clear hSu; go_simp; try with_reducible rfl)⟩ | exact Or.inr ⟨by rfl, rfl⟩) kS ?_; (try simp only [Act.put, List.setIfInBounds_toArray, List.set_cons_zero, List.set_cons_succ]))
      refine wpAnyH_done (by kernel_rfl) ?_ _
      go_wp2_with fail
      go_ret
      exact ⟨rfl, E.out.bel⟩
set_option maxHeartbeats 8000000 in
set_option maxRecDepth 100000 in
theorem walk_bad (w : World) (hG : Glb w) (zs ms : List Int) (hl : zs.length = 9) (hml : ms.length = 12) (i0 c0 : Nat) (hi0 : i0 < 3) (hc0 : c0 < 4) (hok : ∀ k, k < i0 * 4 + c0 → 0 ≤ ms.getD k 0 ∧ ms.getD k 0 ≤ 255) (hbad : ¬ (0 ≤ ms.getD (i0 * 4 + c0) 0 ∧ ms.getD (i0 * 4 + c0) 0 ≤ 255)) :
    Calls Tryd.prog 4 #[arr zs, arr ms] w fun e w' => e = .returned (.bool true) ∧ Below w.heap.size w w' := by
  have E := Lib.hid ((Kn.start w).arg_glb hG)
  obtain ⟨a0, a1, a2, b0, b1, b2, c0', c1, c2, rfl⟩ := list9 zs hl
  have hJ := Lib.hid (fun u hu => lay2_any [a0, a1, a2] [b0, b1, b2] [c0', c1, c2] rfl rfl rfl u hu)
  have hR := Lib.hid (fun u => rlay11 [a0, a1, a2] [b0, b1, b2] [c0', c1, c2] rfl rfl rfl u)
  have hle := lay_le (zsL [a0, a1, a2] [b0, b1, b2] [c0', c1, c2])
  have p0 := Lib.hid (show (([a0, a1, a2, b0, b1, b2, c0', c1, c2] : List Int).drop 0).take 3 = [a0, a1, a2] from rfl)
  have p3 := Lib.hid (show (([a0, a1, a2, b0, b1, b2, c0', c1, c2] : List Int).drop 3).take 3 = [b0, b1, b2] from rfl)
  have p6 := Lib.hid (show (([a0, a1, a2, b0, b1, b2, c0', c1, c2] : List Int).drop 6).take 3 = [c0', c1, c2] from rfl)
  have hzl := Lib.hid (show ([a0, a1, a2, b0, b1, b2, c0', c1, c2] : List Int).length = 9 from rfl)
  have hSa := Lib.hid (fun A1 A2 m q1 q2 u h1 h2 hm => same_self A1 A2 m q1 q2 (layX (zsL [a0, a1, a2] [b0, b1, b2] [c0', c1, c2])) u h1 h2 hm)
  replace hok := Lib.hid hok
  replace hbad := Lib.hid hbad
  clear hG hl
  generalize layX (zsL [a0, a1, a2] [b0, b1, b2] [c0', c1, c2]) = LX at *
  generalize layY (zsL [a0, a1, a2] [b0, b1, b2] [c0', c1, c2]) = LY at *
  generalize [a0, a1, a2, b0, b1, b2, c0', c1, c2] = zs at *
  generalize [a0, a1, a2] = xo at *
  generalize [b0, b1, b2] = xh at *
  generalize [c0', c1, c2] = xv at *
  go_enter Tryd.func4, Tryd.ntmps4
  go_wp2_with (first
    | (go_at_call 7; refine (awake11 _ (E.out.get (by simp))).mono ?_; rintro e w1 ⟨rfl, hb⟩; have E1 := Lib.hid (E.out.later hb); clear hb E; have E := E1; clear E1)
    | ((with_reducible refine kn_loadp (g := g2) (off := 0) E.out rfl rfl rfl ?hl ?_); (case hl => have := hzl.out; omega); rw [p0.out])
    | ((with_reducible refine kn_loadp (g := g2) (off := 3) E.out rfl rfl rfl ?hl ?_); (case hl => have := hzl.out; omega); rw [p3.out])
    | ((with_reducible refine kn_loadp (g := g2) (off := 6) E.out rfl rfl rfl ?hl ?_); (case hl => have := hzl.out; omega); rw [p6.out])
    | (go_at_call 14; (with_reducible refine (hJ.out _ ?ha).mono ?_); (case ha => exact E.out.get (by simp)); clear hJ; rintro e w1 ⟨A1, n1, k1, rfl, hB1, hn1, hk1, hb⟩; obtain rfl := hB1.1; have E1 := Lib.hid (E.out.later hb); clear hb E; have E := E1; clear E1; have E1 := Lib.hid (E.out.new_bsi hB1); clear E hB1; have E := E1; clear E1)
    | (go_at_call 15; (with_reducible refine (hR.out _).mono ?_); clear hR; rintro e w1 ⟨A2, n2, k2, rfl, hB2, hn2, hk2, hb⟩; obtain rfl := hB2.1; have E1 := Lib.hid (E.out.later hb); clear hb E; have E := E1; clear E1; have E1 := Lib.hid (E.out.new_bsi hB2); clear E hB2; have E := E1; clear E1)
    | (go_at_call 16; (with_reducible refine (hSa.out _ _ _ _ _ _ ?ha ?hb ?hc).mono ?_); (case ha => exact E.out.bs (by simp)); (case hb => exact E.out.bs (by simp)); (case hc => omega); clear hSa; rintro e w4 h4; have hb := h4.below; obtain ⟨rfl, -⟩ := h4; have E1 := Lib.hid (E.out.later hb); clear hb E; have E := E1; clear E1)
    | ((with_reducible refine kn_load E.out rfl rfl rfl rfl ?_)) | ((with_reducible refine kn_load_if E.out rfl rfl rfl rfl ?_)) | ((with_reducible refine kn_loads E.out rfl rfl rfl ?_ ?_); (focus (first | rfl | (simp only [i64s_length, u8s_length]; first | rfl | assumption | omega)))) | ((with_reducible refine kn_loads_if E.out rfl rfl rfl ?_ ?_); (focus (first | rfl | (simp only [i64s_length, u8s_length]; first | rfl | assumption | omega)))) | ((with_reducible refine kn_stores E.out rfl rfl rfl rfl rfl ?_ ?_ ?_); (focus (first | exact ⟨rfl, rfl⟩ | (simp only [i64s_length, u8s_length]; refine ⟨?_, ?_⟩ <;> first | rfl | assumption | omega))); (focus (first | exact i64s_one _ | exact u8s_one _ | simp [Value.oneCell'])); clear E; intro u E0; have E := Lib.hid E0; clear E0) | ((with_reducible refine kn_alloc (o := ⟨some 2, _, _, _, _, _⟩) E.out rfl rfl ?_); clear E; intro g2 u E0 hb0; have E := Lib.hid E0; clear E0 hb0) | ((with_reducible refine kn_box (o := ⟨some 2, _, _, _, _, _⟩) E.out rfl rfl rfl ?_); clear E; intro g2 u E0 hb0; have E := Lib.hid E0; clear E0 hb0) | ((with_reducible refine kn_box_int (o := ⟨some 2, _, _, _, _, _⟩) E.out rfl rfl rfl ?_); clear E; intro g2 u E0 hb0; have E := Lib.hid E0; clear E0 hb0) | ((with_reducible refine kn_box_slice (o := ⟨some 2, _, _, _, _, _⟩) E.out rfl rfl rfl ?_); clear E; intro g2 u E0 hb0; have E := Lib.hid E0; clear E0 hb0) | ((with_reducible refine kn_box_bool (o := ⟨some 2, _, _, _, _, _⟩) E.out rfl rfl rfl ?_); clear E; intro g2 u E0 hb0; have E := Lib.hid E0; clear E0 hb0) | ((with_reducible refine kn_box_func (o := ⟨some 2, _, _, _, _, _⟩) E.out rfl rfl rfl ?_); clear E; intro g2 u E0 hb0; have E := Lib.hid E0; clear E0 hb0) | ((with_reducible refine kn_alloc (o := ⟨some 3, _, _, _, _, _⟩) E.out rfl rfl ?_); clear E; intro g3 u E0 hb0; have E := Lib.hid E0; clear E0 hb0) | ((with_reducible refine kn_box (o := ⟨some 3, _, _, _, _, _⟩) E.out rfl rfl rfl ?_); clear E; intro g3 u E0 hb0; have E := Lib.hid E0; clear E0 hb0) | ((with_reducible refine kn_box_int (o := ⟨some 3, _, _, _, _, _⟩) E.out rfl rfl rfl ?_); clear E; intro g3 u E0 hb0; have E := Lib.hid E0; clear E0 hb0) | ((with_reducible refine kn_box_slice (o := ⟨some 3, _, _, _, _, _⟩) E.out rfl rfl rfl ?_); clear E; intro g3 u E0 hb0; have E := Lib.hid E0; clear E0 hb0) | ((with_reducible refine kn_box_bool (o := ⟨some 3, _, _, _, _, _⟩) E.out rfl rfl rfl ?_); clear E; intro g3 u E0 hb0; have E := Lib.hid E0; clear E0 hb0) | ((with_reducible refine kn_box_func (o := ⟨some 3, _, _, _, _, _⟩) E.out rfl rfl rfl ?_); clear E; intro g3 u E0 hb0; have E := Lib.hid E0; clear E0 hb0))
  go_loopw [11] (fun ck wr => ∃ i : Nat, i ≤ i0 ∧ ck = .int .i64 (i : Int) ∧ Hid (Kn w [.row g3 36 (i64s ms)] [] wr)) (fun ck _ => 3 - (intOf ck).toNat)
  case atStart => exact ⟨0, by omega, rfl, E.out.part _ _ (by repeat (first | exact List.Sublist.refl _ | apply List.Sublist.cons_cons | apply List.Sublist.cons)) (by simp)⟩
  case round =>
    clear E
    obtain ⟨i, hi, rfl, E⟩ := hrel
    have hlt : i < 3 := by omega
    have hi3 : (i : Int) < 3 := by omega
    go_wp2_with (first | ((with_reducible refine kn_load E.out rfl rfl rfl rfl ?_)) | ((with_reducible refine kn_load_if E.out rfl rfl rfl rfl ?_)) | ((with_reducible refine kn_loads E.out rfl rfl rfl ?_ ?_); (focus (first | rfl | (simp only [i64s_length, u8s_length]; first | rfl | assumption | omega)))) | ((with_reducible refine kn_loads_if E.out rfl rfl rfl ?_ ?_); (focus (first | rfl | (simp only [i64s_length, u8s_length]; first | rfl | assumption | omega)))) | ((with_reducible refine kn_stores E.out rfl rfl rfl rfl rfl ?_ ?_ ?_); (focus (first | exact ⟨rfl, rfl⟩ | (simp only [i64s_length, u8s_length]; refine ⟨?_, ?_⟩ <;> first | rfl | assumption | omega))); (focus (first | exact i64s_one _ | exact u8s_one _ | simp [Value.oneCell'])); clear E; intro u E0; have E := Lib.hid E0; clear E0))
    go_loopw [12] (fun ck wr => ∃ c : Nat, (c ≤ 4 ∧ (i = i0 → c ≤ c0)) ∧ ck = .int .i64 (c : Int) ∧ Hid (Kn w [.row g3 36 (i64s ms)] [] wr)) (fun ck _ => 4 - (intOf ck).toNat)
    case atStart => exact ⟨0, by omega, rfl, E⟩
    case round =>
      clear E
      obtain ⟨c, hc, rfl, E⟩ := hrel
      by_cases hltc : c < 4
      · have hc4 : (c : Int) < 4 := by omega
        have hy := i64s_get ms (i * 4 + c) (by omega)
        by_cases hq : i = i0 ∧ c = c0
        · have hyb := hbad.out
          rw [← hq.1, ← hq.2] at hyb
          clear hq
          obtain ⟨y, hye⟩ : ∃ z, ms.getD (i * 4 + c) 0 = z := ⟨_, rfl⟩
          rw [hye] at hy hyb
          replace hy := Lib.hid hy
          clear hye
          by_cases y1 : y < 0
          · have y1b : decide (y < 0) = true := decide_eq_true y1
            go_wp2_with (first
              | ((with_reducible refine kn_load (g := g3) (i := i * 4 + c) E.out rfl rfl rfl hy.out ?_))
              | ((with_reducible refine kn_load_if (g := g3) (i := i * 4 + c) E.out rfl rfl rfl hy.out ?_))
              | ((with_reducible refine kn_load E.out rfl rfl rfl rfl ?_)) | ((with_reducible refine kn_load_if E.out rfl rfl rfl rfl ?_)) | ((with_reducible refine kn_loads E.out rfl rfl rfl ?_ ?_); (focus (first | rfl | (simp only [i64s_length, u8s_length]; first | rfl | assumption | omega)))) | ((with_reducible refine kn_loads_if E.out rfl rfl rfl ?_ ?_); (focus (first | rfl | (simp only [i64s_length, u8s_length]; first | rfl | assumption | omega)))) | ((with_reducible refine kn_stores E.out rfl rfl rfl rfl rfl ?_ ?_ ?_); (focus (first | exact ⟨rfl, rfl⟩ | (simp only [i64s_length, u8s_length]; refine ⟨?_, ?_⟩ <;> first | rfl | assumption | omega))); (focus (first | exact i64s_one _ | exact u8s_one _ | simp [Value.oneCell'])); clear E; intro u E0; have E := Lib.hid E0; clear E0))
            go_ret
            exact ⟨rfl, E.out.bel⟩
          · have y2 : 255 < y := by omega
            have y2b : decide (y > 255) = true := decide_eq_true y2
            have y1b : decide (y < 0) = false := decide_eq_false y1
            go_wp2_with (first
              | ((with_reducible refine kn_load (g := g3) (i := i * 4 + c) E.out rfl rfl rfl hy.out ?_))
              | ((with_reducible refine kn_load_if (g := g3) (i := i * 4 + c) E.out rfl rfl rfl hy.out ?_))
              | ((with_reducible refine kn_load E.out rfl rfl rfl rfl ?_)) | ((with_reducible refine kn_load_if E.out rfl rfl rfl rfl ?_)) | ((with_reducible refine kn_loads E.out rfl rfl rfl ?_ ?_); (focus (first | rfl | (simp only [i64s_length, u8s_length]; first | rfl | assumption | omega)))) | ((with_reducible refine kn_loads_if E.out rfl rfl rfl ?_ ?_); (focus (first | rfl | (simp only [i64s_length, u8s_length]; first | rfl | assumption | omega)))) | ((with_reducible refine kn_stores E.out rfl rfl rfl rfl rfl ?_ ?_ ?_); (focus (first | exact ⟨rfl, rfl⟩ | (simp only [i64s_length, u8s_length]; refine ⟨?_, ?_⟩ <;> first | rfl | assumption | omega))); (focus (first | exact i64s_one _ | exact u8s_one _ | simp [Value.oneCell'])); clear E; intro u E0; have E := Lib.hid E0; clear E0))
            go_ret
            exact ⟨rfl, E.out.bel⟩
        · have hyb := hok.out (i * 4 + c) (by omega)
          obtain ⟨y, hye⟩ : ∃ z, ms.getD (i * 4 + c) 0 = z := ⟨_, rfl⟩
          rw [hye] at hy hyb
          replace hy := Lib.hid hy
          have y1 : ¬ y < 0 := by omega
          have y2 : ¬ 255 < y := by omega
          clear hyb hye
          go_wp2_with (first
            | ((with_reducible refine kn_load (g := g3) (i := i * 4 + c) E.out rfl rfl rfl hy.out ?_))
            | ((with_reducible refine kn_load_if (g := g3) (i := i * 4 + c) E.out rfl rfl rfl hy.out ?_))
            | ((with_reducible refine kn_load E.out rfl rfl rfl rfl ?_)) | ((with_reducible refine kn_load_if E.out rfl rfl rfl rfl ?_)) | ((with_reducible refine kn_loads E.out rfl rfl rfl ?_ ?_); (focus (first | rfl | (simp only [i64s_length, u8s_length]; first | rfl | assumption | omega)))) | ((with_reducible refine kn_loads_if E.out rfl rfl rfl ?_ ?_); (focus (first | rfl | (simp only [i64s_length, u8s_length]; first | rfl | assumption | omega)))) | ((with_reducible refine kn_stores E.out rfl rfl rfl rfl rfl ?_ ?_ ?_); (focus (first | exact ⟨rfl, rfl⟩ | (simp only [i64s_length, u8s_length]; refine ⟨?_, ?_⟩ <;> first | rfl | assumption | omega))); (focus (first | exact i64s_one _ | exact u8s_one _ | simp [Value.oneCell'])); clear E; intro u E0; have E := Lib.hid E0; clear E0))
          go_roundw
          case rel => exact ⟨c + 1, by omega, by go_num, E⟩
          case measure => simp [intOf]; try omega
      · have hc4 : ¬ ((c : Int) < 4) := by omega
        go_wp2_with (first | ((with_reducible refine kn_load E.out rfl rfl rfl rfl ?_)) | ((with_reducible refine kn_load_if E.out rfl rfl rfl rfl ?_)) | ((with_reducible refine kn_loads E.out rfl rfl rfl ?_ ?_); (focus (first | rfl | (simp only [i64s_length, u8s_length]; first | rfl | assumption | omega)))) | ((with_reducible refine kn_loads_if E.out rfl rfl rfl ?_ ?_); (focus (first | rfl | (simp only [i64s_length, u8s_length]; first | rfl | assumption | omega)))) | ((with_reducible refine kn_stores E.out rfl rfl rfl rfl rfl ?_ ?_ ?_); (focus (first | exact ⟨rfl, rfl⟩ | (simp only [i64s_length, u8s_length]; refine ⟨?_, ?_⟩ <;> first | rfl | assumption | omega))); (focus (first | exact i64s_one _ | exact u8s_one _ | simp [Value.oneCell'])); clear E; intro u E0; have E := Lib.hid E0; clear E0))
        go_roundw
        case rel => exact ⟨i + 1, by omega, by go_num, E⟩
        case measure => simp [intOf]; try omega
theorem walk (w : World) (hG : Glb w) (zs : List Int) (hl : zs.length = 9) (_ : ∀ z ∈ zs, -9223372036854775808 ≤ z ∧ z ≤ 9223372036854775807) (ms : List Int) (hml : ms.length = 12) (_ : ∀ z ∈ ms, -9223372036854775808 ≤ z ∧ z ≤ 9223372036854775807) :
    Calls Tryd.prog 4 #[arr zs, arr ms] w fun e w' => e = .returned (.bool true) ∧ Below w.heap.size w w' := by
  by_cases h : ∀ k, k < 12 → 0 ≤ ms.getD k 0 ∧ ms.getD k 0 ≤ 255
  · exact walk_ok w hG zs ms hl hml h
  · have hx : ∃ k, k < 12 ∧ ¬ (0 ≤ ms.getD k 0 ∧ ms.getD k 0 ≤ 255) := Classical.byContradiction fun hn => h fun k hk => Classical.byContradiction fun ho => hn ⟨k, hk, ho⟩
    obtain ⟨k, h1, h2, h3⟩ := least (fun k => ¬ (0 ≤ ms.getD k 0 ∧ ms.getD k 0 ≤ 255)) 12 hx
    exact walk_bad w hG zs ms hl hml (k / 4) (k % 4) (by omega) (by omega) (fun j hj => Classical.byContradiction fun ho => h3 j (by omega) ho) (by rw [show k / 4 * 4 + k % 4 = k by omega]; exact h2)

theorem laidOut : laidOutB Tryd.prog = true := by kernel_rfl
set_option maxRecDepth 100000 in
theorem contract (H : Type) (enc : TypeId × Value → H) (W : World) (base : Nat) (args : Array Value) (ds gs : List (DataW H)) (before : List MemPlace)
    (hval0 : ∀ (j : Nat) t v, Tryd.f4.params[j]? = some t → args[j]? = some v → Value.okWide Tryd.prog W .any base t v)
    (hW : DataW.Whole enc Tryd.prog Tryd.f4.params.toList Rows.etctwoLaysSpec.vars false W args.toList ds gs before) (hL : laidMetH Tryd.prog Rows.etctwoLaysRow.laid W) :
    Calls Tryd.prog 4 args W fun e W' => ∃ v, e = .returned v ∧ Rows.etctwoLaysSpec.post enc Tryd.prog Tryd.f4 false true false false W args v W' := by
  have hval : ∀ (j : Nat) t v, Tryd.f4.params[j]? = some t → args[j]? = some v → Value.okWide Tryd.prog W .any base t v := hval0
  have hW' := hW
  obtain ⟨p, q, hA0, hV, rfl, hfz, hnd⟩ := hW
  have hA : DataW.TrodAll enc Tryd.prog W 0 (fun _ => true) true Tryd.f4.params.toList args.toList ds p := hA0
  rw [Tryd.params4] at hA hval
  obtain ⟨v0, vs0, d0, ds0, p0, q0, hargs, rfl, rfl, h0, r0⟩ := trodAll_cons hA
  obtain ⟨v1, vs1, d1, ds1, p1, q1, rfl, rfl, rfl, h1, r1⟩ := trodAll_cons r0
  obtain ⟨rfl, rfl, rfl⟩ := trodAll_nil r1
  obtain rfl : args = #[v0, v1] := by cases args; simp_all
  have lt0 : ∀ x ∈ p0, x.block < W.heap.size := by obtain ⟨m, hm⟩ := h0; exact DataW.trod_lt m _ _ _ hm
  have lt1 : ∀ x ∈ p1, x.block < W.heap.size := by obtain ⟨m, hm⟩ := h1; exact DataW.trod_lt m _ _ _ hm
  obtain ⟨rfl, rfl⟩ := trodVars_none hV
  obtain ⟨zs0, rfl, hl0, hz0⟩ := open_flat Tryd.underlying35 (Flat.array (n := 3) (m := 3) Tryd.underlying35 (by kernel_rfl) (by omega) (Flat.array (n := 3) (m := 1) Tryd.underlying34 (by kernel_rfl) (by omega) (Flat.int Tryd.underlying3 (by kernel_rfl)))) (hval 0 35 v0 rfl rfl) h0
  obtain ⟨zs1, rfl, hl1, hz1⟩ := open_flat Tryd.underlying36 (Flat.array (n := 3) (m := 4) Tryd.underlying36 (by kernel_rfl) (by omega) (Flat.array (n := 4) (m := 1) Tryd.underlying25 (by kernel_rfl) (by omega) (Flat.int Tryd.underlying3 (by kernel_rfl)))) (hval 1 36 v1 rfl rfl) h1
  clear hA0 hval0
  refine (walk W (tabs hL) zs0 hl0 hz0 zs1 hl1 hz1).mono fun e W' ⟨he, bel⟩ => ?_
  subst he
  exact ⟨_, rfl, _, _, _, [], _, [], hW', trodAll_mk1 (shut_bool Tryd.underlying4 _), (trodAll_cons_mk (Below.trod laidOut (by kernel_rfl) (of_decide_eq_true (by kernel_rfl)) h0 bel lt0) (trodAll_cons_mk (Below.trod laidOut (by kernel_rfl) (of_decide_eq_true (by kernel_rfl)) h1 bel lt1) trodAll_mk0)), rfl, bel.frame _, fun h => by cases h⟩

theorem reads (os : Os) {H : Type} (enc : TypeId × Value → H) : ∃ places, DataW.whole enc Tryd.prog ((laidWorld os).forCall (fun _ _ => 0) ⟨#[], #[.agg #[.int .i64 0, .int .i64 0, .int .i64 0, .int .i64 0, .int .i64 0, .int .i64 0, .int .i64 0, .int .i64 0, .int .i64 0], .agg #[.int .i64 0, .int .i64 0, .int .i64 0, .int .i64 0, .int .i64 0, .int .i64 0, .int .i64 0, .int .i64 0, .int .i64 0, .int .i64 0, .int .i64 0, .int .i64 0]], []⟩).memory Tryd.f4.params.toList Rows.etctwoLaysSpec.vars false (#[.agg #[.int .i64 0, .int .i64 0, .int .i64 0, .int .i64 0, .int .i64 0, .int .i64 0, .int .i64 0, .int .i64 0, .int .i64 0], .agg #[.int .i64 0, .int .i64 0, .int .i64 0, .int .i64 0, .int .i64 0, .int .i64 0, .int .i64 0, .int .i64 0, .int .i64 0, .int .i64 0, .int .i64 0, .int .i64 0]] : Array Value).toList 8 = some ([.agg [.agg [.lit (.int .i64 0), .lit (.int .i64 0), .lit (.int .i64 0)], .agg [.lit (.int .i64 0), .lit (.int .i64 0), .lit (.int .i64 0)], .agg [.lit (.int .i64 0), .lit (.int .i64 0), .lit (.int .i64 0)]], .agg [.agg [.lit (.int .i64 0), .lit (.int .i64 0), .lit (.int .i64 0), .lit (.int .i64 0)], .agg [.lit (.int .i64 0), .lit (.int .i64 0), .lit (.int .i64 0), .lit (.int .i64 0)], .agg [.lit (.int .i64 0), .lit (.int .i64 0), .lit (.int .i64 0), .lit (.int .i64 0)]]], [], places) :=
  ⟨[], by kernel_rfl⟩

set_option maxRecDepth 100000 in
theorem lifted (os : Os) (started : os.Started) (H : Type) (enc : TypeId × Value → H) (F : Stop.Interp) :
    ReturnsInHanded {} Tryd.checked os 4 .any ((OpenSpec.ofChange Rows.etctwoLaysSpec).preRow enc Tryd.prog Tryd.f4 Rows.etctwoLaysRow.domain false Rows.etctwoLaysRow.laid) (((OpenSpec.ofChange Rows.etctwoLaysSpec).at F).post enc Tryd.prog Tryd.f4 false true false false) := by
  obtain ⟨places, hx⟩ := reads os enc
  refine returnsInHanded_of_row (C := Tryd.checked) (s := OpenSpec.ofChange Rows.etctwoLaysSpec) own started (by kernel_rfl) Tryd.func4
    (witness_row_at (enc := enc) (C := Tryd.checked) false (laidWorld os) #[.agg #[.int .i64 0, .int .i64 0, .int .i64 0, .int .i64 0, .int .i64 0, .int .i64 0, .int .i64 0, .int .i64 0, .int .i64 0], .agg #[.int .i64 0, .int .i64 0, .int .i64 0, .int .i64 0, .int .i64 0, .int .i64 0, .int .i64 0, .int .i64 0, .int .i64 0, .int .i64 0, .int .i64 0, .int .i64 0]] rfl (by kernel_rfl) (by kernel_rfl) (by kernel_rfl)
      (OpenSpec.preRow_of_cond 8 hx (by kernel_rfl) (fun k hk => by cases hk) (by kernel_rfl) (laid_met os _))) ?_
  intro W base args ds gs before hval hW _ _ _ hL _ _
  exact contract H enc W base args ds gs before hval hW hL

theorem said : Rows.EtctwoLaysSaid :=
  OpenClaim.holds_of_cond 4 Tryd.f4 rfl rfl rfl rfl rfl rfl rfl ⟨rfl, rfl, rfl, rfl, rfl⟩ rfl rfl rfl rfl rfl (by kernel_rfl) Tryd.func4 (by kernel_rfl)
    (of_decide_eq_true (by kernel_rfl)) (by unfold Func.isWrapper; first | (rw [if_pos (by decide +kernel)]; kernel_rfl) | (rw [if_neg (by decide +kernel)]; exact ⟨rfl, rfl⟩))
    (fun os started H enc _ F => by rw [OpenClaim.pre_eq_preRow]; exact lifted os started H enc F)

theorem plain (f : FuncId) (fn : Func) (hf : Tryd.pinned.checked.prog.funcNamed "swatch/swatchlaw11.EtctwoLays" = some f) (hfn : Tryd.pinned.checked.prog.funcs[f]? = some fn) :
    false = Tryd.pinned.checked.prog.looks [] ∧ ∀ (j : Nat) t, fn.params[j]? = some t → Tryd.pinned.checked.prog.wantsStandIn t = false := by
  obtain rfl : f = 4 := Option.some.inj ((show Tryd.prog.funcNamed "swatch/swatchlaw11.EtctwoLays" = some 4 by kernel_rfl).symm.trans hf) |>.symm
  obtain rfl : fn = Tryd.f4 := (Option.some.inj (Tryd.func4.symm.trans hfn)).symm
  refine ⟨by kernel_rfl, fun j t ht => ?_⟩
  rw [Tryd.params4] at ht
  have hm := Array.mem_of_getElem? ht
  simp only [List.mem_toArray, List.mem_cons, List.not_mem_nil, or_false] at hm
  rcases hm with rfl | rfl
  · exact (show Tryd.prog.wantsStandIn 35 = false by kernel_rfl)
  · exact (show Tryd.prog.wantsStandIn 36 = false by kernel_rfl)

theorem card : Rows.EtctwoLaysCardSaid :=
  Claim7.holds_tied_plain_at .later [] _ _ _ _ said (fun _ h => by cases h) (by kernel_rfl) (fun _ h => by cases h) etctwoLays_row_tie rfl ⟨rfl, rfl⟩ (by kernel_rfl) rfl plain (by kernel_rfl)
end Go.Proofs.YtgcijioiicmjiaaDoor.etctwoLays

namespace Go.Proofs.YtgcijioiicmjiaaDoor
theorem etctwoLays_holds : Rows.EtctwoLaysCardSaid := etctwoLays.card
#print axioms etctwoLays_holds
end Go.Proofs.YtgcijioiicmjiaaDoor
