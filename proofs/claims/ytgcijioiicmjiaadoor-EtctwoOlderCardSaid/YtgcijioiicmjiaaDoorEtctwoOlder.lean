/- EtctwoOlder: blocks of halves are those of layer 10, opaque ones the same with alpha, each texel clear or of alpha 255; the tables are as the program's text lays them; no condition besides. -/
import Derived.Test.YtgcijioiicmjiaaDoorRows
import Derived.Test.YtgcijioiicmjiaaDoorCards
import Derived.Test.YtgcijioiicmjiaaDoorTie
import Derived.Test.YtgcijioiicmjiaaDoorE2Awake
import Derived.Test.YtgcijioiicmjiaaDoorE2Card
import Derived.Test.YtgcijioiicmjiaaDoorE1Rpaint
import Derived.Test.YtgcijioiicmjiaaDoorG11
import Derived.Test.YtgcijioiicmjiaaDoorOpenArr
import Derived.OpenShut
import Derived.ShutString
import Derived.ChangeOld
import Derived.Below
set_option linter.all false
namespace Go.Proofs.YtgcijioiicmjiaaDoor.etctwoOlder
open Go.ChangeShapes Go.WideShapes Go.ChangeAt Go.RowKit
open Bi Lv Eo Et

set_option maxHeartbeats 8000000 in
set_option maxRecDepth 100000 in
theorem walk_far (w : World) (hG : Glb w) (A : Option Addr) (n c : Nat) (h8 : n ≠ 8) (hn : n ≤ 9223372036854775807) :
    Calls Tryd.prog 6 #[.slice A n c] w fun e w' => e = .returned (.bool true) ∧ Below w.heap.size w w' := by
  have E := Lib.hid ((Kn.start w).arg_glb hG)
  have hn8 : ¬ ((n : Int) = 8) := by omega
  clear h8 hG
  go_enter Tryd.func6, Tryd.ntmps6
  go_wp2_with (first
    | (go_at_call 7; refine (awake11 _ (E.out.get (by simp))).mono ?_; rintro e w1 ⟨rfl, hb⟩; have E1 := Lib.hid (E.out.later hb); clear hb E; have E := E1; clear E1)
    | ((with_reducible refine kn_load E.out rfl rfl rfl rfl ?_)) | ((with_reducible refine kn_load_if E.out rfl rfl rfl rfl ?_)) | ((with_reducible refine kn_loads E.out rfl rfl rfl ?_ ?_); (focus (first | rfl | (simp only [i64s_length, u8s_length]; first | rfl | assumption | omega)))) | ((with_reducible refine kn_loads_if E.out rfl rfl rfl ?_ ?_); (focus (first | rfl | (simp only [i64s_length, u8s_length]; first | rfl | assumption | omega)))) | ((with_reducible refine kn_store1_int E.out rfl rfl rfl rfl rfl ?_); clear E; intro u E0; have E := Lib.hid E0; clear E0) | ((with_reducible refine kn_store1_slice E.out rfl rfl rfl rfl rfl ?_); clear E; intro u E0; have E := Lib.hid E0; clear E0) | ((with_reducible refine kn_store1_bool E.out rfl rfl rfl rfl rfl ?_); clear E; intro u E0; have E := Lib.hid E0; clear E0) | ((with_reducible refine kn_stores E.out rfl rfl rfl rfl rfl ?_ ?_ ?_); (focus (first | exact ⟨rfl, rfl⟩ | (simp only [i64s_length, u8s_length]; refine ⟨?_, ?_⟩ <;> first | rfl | assumption | omega))); (focus (first | exact i64s_one _ | exact u8s_one _ | simp [Value.oneCell'])); clear E; intro u E0; have E := Lib.hid E0; clear E0) | ((with_reducible refine kn_alloc E.out rfl rfl ?_); clear E; intro g u E0 hb0; have E := Lib.hid E0; clear E0 hb0) | ((with_reducible refine kn_box E.out rfl rfl rfl ?_); clear E; intro g u E0 hb0; have E := Lib.hid E0; clear E0 hb0) | ((with_reducible refine kn_box_int E.out rfl rfl rfl ?_); clear E; intro g u E0 hb0; have E := Lib.hid E0; clear E0 hb0) | ((with_reducible refine kn_box_slice E.out rfl rfl rfl ?_); clear E; intro g u E0 hb0; have E := Lib.hid E0; clear E0 hb0) | ((with_reducible refine kn_box_bool E.out rfl rfl rfl ?_); clear E; intro g u E0 hb0; have E := Lib.hid E0; clear E0 hb0) | ((with_reducible refine kn_box_func E.out rfl rfl rfl ?_); clear E; intro g u E0 hb0; have E := Lib.hid E0; clear E0 hb0))
  go_ret
  exact ⟨rfl, E.out.bel⟩
theorem eq_zero4 (l : List Int) (hl : l.length = 4) (u : World) : (Op.equalIn 10000 25 (arr l) (.agg #[.int .i64 0, .int .i64 0, .int .i64 0, .int .i64 0])).run Tryd.prog u = .ok (l == [0, 0, 0, 0]) u := eq_texel l [0, 0, 0, 0] hl rfl u
set_option maxHeartbeats 8000000 in
set_option maxRecDepth 100000 in
theorem walk_a (w : World) (hG : Glb w) (A : Option Addr) (c : Nat) (xs : List Nat) (hB : Bs w w.heap.size A 8 xs) (hd : pD xs = true) (hf : farP (pD xs) (pZ xs) 3 = 3) :
    Calls Tryd.prog 6 #[.slice A 8 c] w fun e w' => e = .returned (.bool true) ∧ Below w.heap.size w w' := by
  have E := Lib.hid (((Kn.start w).arg_glb hG).arg_bs hB)
  have hxl := hB.1
  have hx256 := hB.2.1
  have hK0 := kdN_halves xs
  have hAl := Lib.hid (fun i (hi : i < 16) => deR_alpha xs hxl i hi)
  have hCl := Lib.hid (fun i (hi : i < 16) => deR_clear xs hxl i hi)
  have hUT : deR false xs = deV 8 xs := deR_halves xs hxl hf
  have hWT : deR false xs = deR true xs := (deR_opaque xs hxl hx256 hd).symm
  have hD := Lib.hid (fun u hu hg => decode_ok2 A c false xs u hu hg)
  have hT := Lib.hid (fun u hu hg => decode_ok2 A c true xs u hu hg)
  have hO := Lib.hid (fun u hu hg => decode10 A 8 c xs u hu (by omega) hg)
  have hP := Lib.hid (fun u hu => parts_ok A c xs u hu)
  have hBa := Lib.hid (fun u => bases_any (pD xs) (pF xs) (pZ xs) u (pZ_length xs) (ok_parts xs))
  have hK := Lib.hid (fun u hu hg => kind_ok A c false xs u hu hg)
  rw [show paE 8 = 0 from rfl] at hO
  have hz24 := Lib.hid z24_length
  have hzz := Lib.hid (show (i64s z64).length = 64 from rfl)
  have hZl := Lib.hid (pZ_length xs)
  have hl1 := deR_length false xs
  have hl2 := deR_length true xs
  have hl3 := deV_length 8 xs
  have hbl := Lib.hid (baV_length (pD xs) (pZ xs))
  clear hB hG hxl hx256
  rw [hd] at hP hBa hbl hK0
  rw [hd] at hf
  generalize pF xs = f at *
  generalize farP true (pZ xs) 3 = far at *
  generalize baV true (pZ xs) = BA at *
  generalize pZ xs = Z at *
  generalize deR false xs = TV at *
  generalize deR true xs = WV at *
  generalize deV 8 xs = UV at *
  generalize kdN false xs = kd at *
  subst hUT
  subst hWT
  obtain rfl : far = 3 := hf
  obtain rfl : kd = 0 := hK0.2 rfl
  clear hK0
  have hq : ∀ u, (Op.equalIn 10000 27 (arr TV) (arr TV)).run Tryd.prog u = .ok true u := fun u => by
    have k := eq_tile TV TV hl1 hl1 u
    rw [beq_self_eq_true] at k
    exact k
  have hl1' := Lib.hid hl1
  have hl2' := Lib.hid hl2
  have hl3' := Lib.hid hl3
  go_enter Tryd.func6, Tryd.ntmps6
  go_wp2_with (first
    | (go_at_call 7; refine (awake11 _ (E.out.get (by simp))).mono ?_; rintro e w1 ⟨rfl, hb⟩; have E1 := Lib.hid (E.out.later hb); clear hb E; have E := E1; clear E1)
    | (go_at_call 8; (with_reducible refine (hD.out _ ?ha ?hb).mono ?_); (case ha => exact E.out.bs (by simp)); (case hb => exact E.out.get (by simp)); clear hD; rintro e w2 ⟨rfl, hb⟩; have E1 := Lib.hid (E.out.later hb); clear hb E; have E := E1; clear E1)
    | (go_at_call 8; (with_reducible refine (hT.out _ ?ha ?hb).mono ?_); (case ha => exact E.out.bs (by simp)); (case hb => exact E.out.get (by simp)); clear hT; rintro e w2 ⟨rfl, hb⟩; have E1 := Lib.hid (E.out.later hb); clear hb E; have E := E1; clear E1)
    | (go_at_call 20; (with_reducible refine (hO.out _ ?ha ?hb).mono ?_); (case ha => exact E.out.bs (by simp)); (case hb => exact Glb.nums (E.out.get (by simp))); clear hO; rintro e w2 ⟨rfl, hb⟩; have E1 := Lib.hid (E.out.later hb); clear hb E; have E := E1; clear E1)
    | (go_at_call 21; (with_reducible refine (hP.out _ ?ha).mono ?_); (case ha => exact E.out.bs (by simp)); clear hP; rintro e w2 ⟨rfl, hb⟩; have E1 := Lib.hid (E.out.later hb); clear hb E; have E := E1; clear E1)
    | (go_at_call 22; (with_reducible refine (hBa.out _).mono ?_); clear hBa; rintro e w2 ⟨rfl, hb⟩; have E1 := Lib.hid (E.out.later hb); clear hb E; have E := E1; clear E1)
    | (go_at_call 10; (with_reducible refine (hK.out _ ?ha ?hb).mono ?_); (case ha => exact E.out.bs (by simp)); (case hb => exact E.out.get (by simp)); rintro e w2 ⟨rfl, hb⟩; have E1 := Lib.hid (E.out.later hb); clear hb E; have E := E1; clear E1)
    | ((with_reducible refine kn_stores (g := g4) (vs := i64s TV) E.out rfl rfl rfl rfl rfl ?hl ?h1 ?_); (case hl => exact ⟨hzz.out, by rw [i64s_length]; exact hl1'.out⟩); (case h1 => exact i64s_one _); clear E; intro u E0; have E := Lib.hid E0; clear E0)
    | ((with_reducible refine kn_stores (g := g6) (vs := i64s TV) E.out rfl rfl rfl rfl rfl ?hl ?h1 ?_); (case hl => exact ⟨hzz.out, by rw [i64s_length]; exact hl3'.out⟩); (case h1 => exact i64s_one _); clear E; intro u E0; have E := Lib.hid E0; clear E0)
    | ((with_reducible refine kn_stores (g := g8) (vs := i64s TV) E.out rfl rfl rfl rfl rfl ?hl ?h1 ?_); (case hl => exact ⟨hzz.out, by rw [i64s_length]; exact hl2'.out⟩); (case h1 => exact i64s_one _); clear E; intro u E0; have E := Lib.hid E0; clear E0)
    | ((with_reducible refine kn_bputall (g := g10) E.out rfl rfl rfl rfl rfl ?h1 ?h2 ?_); (case h1 => exact hz24.out); (case h2 => exact hZl.out); clear E; intro u E0; have E := Lib.hid E0; clear E0)
    | ((with_reducible refine kn_ball (g := g10) E.out rfl rfl rfl ?h1 ?_); (case h1 => exact hZl.out))
    | ((with_reducible refine kn_stores (g := g12) (vs := i64s BA) E.out rfl rfl rfl rfl rfl ?hl ?h1 ?_); (case hl => exact ⟨rfl, by rw [i64s_length]; exact hbl.out⟩); (case h1 => exact i64s_one _); clear E; intro u E0; have E := Lib.hid E0; clear E0)
    | ((with_reducible refine kn_loads_if (g := g4) E.out rfl rfl rfl ?hl ?_); (case hl => rw [i64s_length]; exact hl1'.out))
    | ((with_reducible refine kn_loads_if (g := g6) E.out rfl rfl rfl ?hl ?_); (case hl => rw [i64s_length]; exact hl3'.out))
    | ((with_reducible refine kn_loads_if (g := g8) E.out rfl rfl rfl ?hl ?_); (case hl => rw [i64s_length]; exact hl2'.out))
    | ((with_reducible refine kn_bd_if (g := g10) E.out rfl rfl rfl ?_))
    | ((with_reducible refine kn_load E.out rfl rfl rfl rfl ?_)) | ((with_reducible refine kn_load_if E.out rfl rfl rfl rfl ?_)) | ((with_reducible refine kn_loads E.out rfl rfl rfl ?_ ?_); (focus (first | rfl | (simp only [i64s_length, u8s_length]; first | rfl | assumption | omega)))) | ((with_reducible refine kn_loads_if E.out rfl rfl rfl ?_ ?_); (focus (first | rfl | (simp only [i64s_length, u8s_length]; first | rfl | assumption | omega)))) | ((with_reducible refine kn_store1_int E.out rfl rfl rfl rfl rfl ?_); clear E; intro u E0; have E := Lib.hid E0; clear E0) | ((with_reducible refine kn_store1_slice E.out rfl rfl rfl rfl rfl ?_); clear E; intro u E0; have E := Lib.hid E0; clear E0) | ((with_reducible refine kn_store1_bool E.out rfl rfl rfl rfl rfl ?_); clear E; intro u E0; have E := Lib.hid E0; clear E0) | ((with_reducible refine kn_stores E.out rfl rfl rfl rfl rfl ?_ ?_ ?_); (focus (first | exact ⟨rfl, rfl⟩ | (simp only [i64s_length, u8s_length]; refine ⟨?_, ?_⟩ <;> first | rfl | assumption | omega))); (focus (first | exact i64s_one _ | exact u8s_one _ | simp [Value.oneCell'])); clear E; intro u E0; have E := Lib.hid E0; clear E0) | ((with_reducible refine kn_alloc (o := ⟨some 4, _, _, _, _, _⟩) E.out rfl rfl ?_); clear E; intro g4 u E0 hb0; have E := Lib.hid E0; clear E0 hb0) | ((with_reducible refine kn_box (o := ⟨some 4, _, _, _, _, _⟩) E.out rfl rfl rfl ?_); clear E; intro g4 u E0 hb0; have E := Lib.hid E0; clear E0 hb0) | ((with_reducible refine kn_box_int (o := ⟨some 4, _, _, _, _, _⟩) E.out rfl rfl rfl ?_); clear E; intro g4 u E0 hb0; have E := Lib.hid E0; clear E0 hb0) | ((with_reducible refine kn_box_slice (o := ⟨some 4, _, _, _, _, _⟩) E.out rfl rfl rfl ?_); clear E; intro g4 u E0 hb0; have E := Lib.hid E0; clear E0 hb0) | ((with_reducible refine kn_box_bool (o := ⟨some 4, _, _, _, _, _⟩) E.out rfl rfl rfl ?_); clear E; intro g4 u E0 hb0; have E := Lib.hid E0; clear E0 hb0) | ((with_reducible refine kn_box_func (o := ⟨some 4, _, _, _, _, _⟩) E.out rfl rfl rfl ?_); clear E; intro g4 u E0 hb0; have E := Lib.hid E0; clear E0 hb0) | ((with_reducible refine kn_alloc (o := ⟨some 6, _, _, _, _, _⟩) E.out rfl rfl ?_); clear E; intro g6 u E0 hb0; have E := Lib.hid E0; clear E0 hb0) | ((with_reducible refine kn_box (o := ⟨some 6, _, _, _, _, _⟩) E.out rfl rfl rfl ?_); clear E; intro g6 u E0 hb0; have E := Lib.hid E0; clear E0 hb0) | ((with_reducible refine kn_box_int (o := ⟨some 6, _, _, _, _, _⟩) E.out rfl rfl rfl ?_); clear E; intro g6 u E0 hb0; have E := Lib.hid E0; clear E0 hb0) | ((with_reducible refine kn_box_slice (o := ⟨some 6, _, _, _, _, _⟩) E.out rfl rfl rfl ?_); clear E; intro g6 u E0 hb0; have E := Lib.hid E0; clear E0 hb0) | ((with_reducible refine kn_box_bool (o := ⟨some 6, _, _, _, _, _⟩) E.out rfl rfl rfl ?_); clear E; intro g6 u E0 hb0; have E := Lib.hid E0; clear E0 hb0) | ((with_reducible refine kn_box_func (o := ⟨some 6, _, _, _, _, _⟩) E.out rfl rfl rfl ?_); clear E; intro g6 u E0 hb0; have E := Lib.hid E0; clear E0 hb0) | ((with_reducible refine kn_alloc (o := ⟨some 8, _, _, _, _, _⟩) E.out rfl rfl ?_); clear E; intro g8 u E0 hb0; have E := Lib.hid E0; clear E0 hb0) | ((with_reducible refine kn_box (o := ⟨some 8, _, _, _, _, _⟩) E.out rfl rfl rfl ?_); clear E; intro g8 u E0 hb0; have E := Lib.hid E0; clear E0 hb0) | ((with_reducible refine kn_box_int (o := ⟨some 8, _, _, _, _, _⟩) E.out rfl rfl rfl ?_); clear E; intro g8 u E0 hb0; have E := Lib.hid E0; clear E0 hb0) | ((with_reducible refine kn_box_slice (o := ⟨some 8, _, _, _, _, _⟩) E.out rfl rfl rfl ?_); clear E; intro g8 u E0 hb0; have E := Lib.hid E0; clear E0 hb0) | ((with_reducible refine kn_box_bool (o := ⟨some 8, _, _, _, _, _⟩) E.out rfl rfl rfl ?_); clear E; intro g8 u E0 hb0; have E := Lib.hid E0; clear E0 hb0) | ((with_reducible refine kn_box_func (o := ⟨some 8, _, _, _, _, _⟩) E.out rfl rfl rfl ?_); clear E; intro g8 u E0 hb0; have E := Lib.hid E0; clear E0 hb0) | ((with_reducible refine kn_alloc (o := ⟨some 10, _, _, _, _, _⟩) E.out rfl rfl ?_); clear E; intro g10 u E0 hb0; have E := Lib.hid E0; clear E0 hb0) | ((with_reducible refine kn_box (o := ⟨some 10, _, _, _, _, _⟩) E.out rfl rfl rfl ?_); clear E; intro g10 u E0 hb0; have E := Lib.hid E0; clear E0 hb0) | ((with_reducible refine kn_box_int (o := ⟨some 10, _, _, _, _, _⟩) E.out rfl rfl rfl ?_); clear E; intro g10 u E0 hb0; have E := Lib.hid E0; clear E0 hb0) | ((with_reducible refine kn_box_slice (o := ⟨some 10, _, _, _, _, _⟩) E.out rfl rfl rfl ?_); clear E; intro g10 u E0 hb0; have E := Lib.hid E0; clear E0 hb0) | ((with_reducible refine kn_box_bool (o := ⟨some 10, _, _, _, _, _⟩) E.out rfl rfl rfl ?_); clear E; intro g10 u E0 hb0; have E := Lib.hid E0; clear E0 hb0) | ((with_reducible refine kn_box_func (o := ⟨some 10, _, _, _, _, _⟩) E.out rfl rfl rfl ?_); clear E; intro g10 u E0 hb0; have E := Lib.hid E0; clear E0 hb0) | ((with_reducible refine kn_alloc (o := ⟨some 12, _, _, _, _, _⟩) E.out rfl rfl ?_); clear E; intro g12 u E0 hb0; have E := Lib.hid E0; clear E0 hb0) | ((with_reducible refine kn_box (o := ⟨some 12, _, _, _, _, _⟩) E.out rfl rfl rfl ?_); clear E; intro g12 u E0 hb0; have E := Lib.hid E0; clear E0 hb0) | ((with_reducible refine kn_box_int (o := ⟨some 12, _, _, _, _, _⟩) E.out rfl rfl rfl ?_); clear E; intro g12 u E0 hb0; have E := Lib.hid E0; clear E0 hb0) | ((with_reducible refine kn_box_slice (o := ⟨some 12, _, _, _, _, _⟩) E.out rfl rfl rfl ?_); clear E; intro g12 u E0 hb0; have E := Lib.hid E0; clear E0 hb0) | ((with_reducible refine kn_box_bool (o := ⟨some 12, _, _, _, _, _⟩) E.out rfl rfl rfl ?_); clear E; intro g12 u E0 hb0; have E := Lib.hid E0; clear E0 hb0) | ((with_reducible refine kn_box_func (o := ⟨some 12, _, _, _, _, _⟩) E.out rfl rfl rfl ?_); clear E; intro g12 u E0 hb0; have E := Lib.hid E0; clear E0 hb0) | ((with_reducible refine kn_alloc E.out rfl rfl ?_); clear E; intro g u E0 hb0; have E := Lib.hid E0; clear E0 hb0) | ((with_reducible refine kn_box E.out rfl rfl rfl ?_); clear E; intro g u E0 hb0; have E := Lib.hid E0; clear E0 hb0) | ((with_reducible refine kn_box_int E.out rfl rfl rfl ?_); clear E; intro g u E0 hb0; have E := Lib.hid E0; clear E0 hb0) | ((with_reducible refine kn_box_slice E.out rfl rfl rfl ?_); clear E; intro g u E0 hb0; have E := Lib.hid E0; clear E0 hb0) | ((with_reducible refine kn_box_bool E.out rfl rfl rfl ?_); clear E; intro g u E0 hb0; have E := Lib.hid E0; clear E0 hb0) | ((with_reducible refine kn_box_func E.out rfl rfl rfl ?_); clear E; intro g u E0 hb0; have E := Lib.hid E0; clear E0 hb0))
  go_loopw [14] (fun ck wr => ∃ i : Nat, i ≤ 16 ∧ ck = .int .i64 (i : Int) ∧ Hid (Kn w [.row g10 48 (blk true f Z), .row g8 27 (i64s TV), .row g4 27 (i64s TV)] [bsF A 8 xs, Glb] wr)) (fun ck _ => 16 - (intOf ck).toNat)
  case atStart => exact ⟨0, by omega, rfl, E.out.part _ _ (by repeat (first | exact List.Sublist.refl _ | apply List.Sublist.cons_cons | apply List.Sublist.cons)) (by simp)⟩
  case round =>
    clear E
    obtain ⟨i, hi, rfl, E⟩ := hrel
    by_cases hlt : i < 16
    · have hi3 : (i : Int) < 16 := by omega
      have ht := hAl.out i hlt
      have hti := i64s_get TV (i * 4 + 3) (by omega)
      rw [ht] at hti
      replace hti := Lib.hid hti
      have hwl : i * 4 + 4 ≤ (i64s TV).length := by rw [i64s_length]; omega
      replace hwl := Lib.hid hwl
      by_cases hz : ((TV.drop (i * 4)).take 4) = [0, 0, 0, 0]
      · have hq0 : ∀ u, (Op.equalIn 10000 25 (arr ((TV.drop (i * 4)).take 4)) (.agg #[.int .i64 0, .int .i64 0, .int .i64 0, .int .i64 0])).run Tryd.prog u = .ok true u := fun u => by
          have k := eq_zero4 _ (show ((TV.drop (i * 4)).take 4).length = 4 from by rw [hz]; rfl) u
          rw [show (((TV.drop (i * 4)).take 4) == [0, 0, 0, 0]) = true from by rw [hz]; rfl] at k
          exact k
        clear hz ht
        go_wp2_with (first
          | ((with_reducible refine kn_load (g := g4) (i := i * 4 + 3) E.out rfl rfl rfl hti.out ?_))
          | ((with_reducible refine kn_loadp_if (g := g8) (off := i * 4) E.out rfl rfl rfl ?hl ?_); (case hl => have := hl2'.out; omega))
          | ((with_reducible refine kn_load E.out rfl rfl rfl rfl ?_)) | ((with_reducible refine kn_load_if E.out rfl rfl rfl rfl ?_)) | ((with_reducible refine kn_loads E.out rfl rfl rfl ?_ ?_); (focus (first | rfl | (simp only [i64s_length, u8s_length]; first | rfl | assumption | omega)))) | ((with_reducible refine kn_loads_if E.out rfl rfl rfl ?_ ?_); (focus (first | rfl | (simp only [i64s_length, u8s_length]; first | rfl | assumption | omega)))) | ((with_reducible refine kn_store1_int E.out rfl rfl rfl rfl rfl ?_); clear E; intro u E0; have E := Lib.hid E0; clear E0) | ((with_reducible refine kn_store1_slice E.out rfl rfl rfl rfl rfl ?_); clear E; intro u E0; have E := Lib.hid E0; clear E0) | ((with_reducible refine kn_store1_bool E.out rfl rfl rfl rfl rfl ?_); clear E; intro u E0; have E := Lib.hid E0; clear E0) | ((with_reducible refine kn_stores E.out rfl rfl rfl rfl rfl ?_ ?_ ?_); (focus (first | exact ⟨rfl, rfl⟩ | (simp only [i64s_length, u8s_length]; refine ⟨?_, ?_⟩ <;> first | rfl | assumption | omega))); (focus (first | exact i64s_one _ | exact u8s_one _ | simp [Value.oneCell'])); clear E; intro u E0; have E := Lib.hid E0; clear E0) | ((with_reducible refine kn_alloc E.out rfl rfl ?_); clear E; intro g u E0 hb0; have E := Lib.hid E0; clear E0 hb0) | ((with_reducible refine kn_box E.out rfl rfl rfl ?_); clear E; intro g u E0 hb0; have E := Lib.hid E0; clear E0 hb0) | ((with_reducible refine kn_box_int E.out rfl rfl rfl ?_); clear E; intro g u E0 hb0; have E := Lib.hid E0; clear E0 hb0) | ((with_reducible refine kn_box_slice E.out rfl rfl rfl ?_); clear E; intro g u E0 hb0; have E := Lib.hid E0; clear E0 hb0) | ((with_reducible refine kn_box_bool E.out rfl rfl rfl ?_); clear E; intro g u E0 hb0; have E := Lib.hid E0; clear E0 hb0) | ((with_reducible refine kn_box_func E.out rfl rfl rfl ?_); clear E; intro g u E0 hb0; have E := Lib.hid E0; clear E0 hb0))
        go_roundw
        case rel => exact ⟨i + 1, by omega, by go_num, E.out.part _ _ (by repeat (first | exact List.Sublist.refl _ | apply List.Sublist.cons_cons | apply List.Sublist.cons)) (by simp)⟩
        case measure => simp [intOf]; try omega
      · have hq0 : ∀ u, (Op.equalIn 10000 25 (arr ((TV.drop (i * 4)).take 4)) (.agg #[.int .i64 0, .int .i64 0, .int .i64 0, .int .i64 0])).run Tryd.prog u = .ok false u := fun u => by
          have k := eq_zero4 _ (show ((TV.drop (i * 4)).take 4).length = 4 from by rw [List.length_take, List.length_drop]; omega) u
          rw [show (((TV.drop (i * 4)).take 4) == [0, 0, 0, 0]) = false from by simp [hz]] at k
          exact k
        have hw := (hCl.out i hlt).resolve_left hz
        have hwi := i64s_get TV (i * 4 + 3) (by omega)
        rw [hw] at hwi
        replace hwi := Lib.hid hwi
        clear hz ht hw
        go_wp2_with (first
          | ((with_reducible refine kn_load (g := g4) (i := i * 4 + 3) E.out rfl rfl rfl hti.out ?_))
          | ((with_reducible refine kn_loadp_if (g := g8) (off := i * 4) E.out rfl rfl rfl ?hl ?_); (case hl => have := hl2'.out; omega))
          | ((with_reducible refine kn_load_if (g := g8) (i := i * 4 + 3) E.out rfl rfl rfl hwi.out ?_))
          | ((with_reducible refine kn_load E.out rfl rfl rfl rfl ?_)) | ((with_reducible refine kn_load_if E.out rfl rfl rfl rfl ?_)) | ((with_reducible refine kn_loads E.out rfl rfl rfl ?_ ?_); (focus (first | rfl | (simp only [i64s_length, u8s_length]; first | rfl | assumption | omega)))) | ((with_reducible refine kn_loads_if E.out rfl rfl rfl ?_ ?_); (focus (first | rfl | (simp only [i64s_length, u8s_length]; first | rfl | assumption | omega)))) | ((with_reducible refine kn_store1_int E.out rfl rfl rfl rfl rfl ?_); clear E; intro u E0; have E := Lib.hid E0; clear E0) | ((with_reducible refine kn_store1_slice E.out rfl rfl rfl rfl rfl ?_); clear E; intro u E0; have E := Lib.hid E0; clear E0) | ((with_reducible refine kn_store1_bool E.out rfl rfl rfl rfl rfl ?_); clear E; intro u E0; have E := Lib.hid E0; clear E0) | ((with_reducible refine kn_stores E.out rfl rfl rfl rfl rfl ?_ ?_ ?_); (focus (first | exact ⟨rfl, rfl⟩ | (simp only [i64s_length, u8s_length]; refine ⟨?_, ?_⟩ <;> first | rfl | assumption | omega))); (focus (first | exact i64s_one _ | exact u8s_one _ | simp [Value.oneCell'])); clear E; intro u E0; have E := Lib.hid E0; clear E0) | ((with_reducible refine kn_alloc E.out rfl rfl ?_); clear E; intro g u E0 hb0; have E := Lib.hid E0; clear E0 hb0) | ((with_reducible refine kn_box E.out rfl rfl rfl ?_); clear E; intro g u E0 hb0; have E := Lib.hid E0; clear E0 hb0) | ((with_reducible refine kn_box_int E.out rfl rfl rfl ?_); clear E; intro g u E0 hb0; have E := Lib.hid E0; clear E0 hb0) | ((with_reducible refine kn_box_slice E.out rfl rfl rfl ?_); clear E; intro g u E0 hb0; have E := Lib.hid E0; clear E0 hb0) | ((with_reducible refine kn_box_bool E.out rfl rfl rfl ?_); clear E; intro g u E0 hb0; have E := Lib.hid E0; clear E0 hb0) | ((with_reducible refine kn_box_func E.out rfl rfl rfl ?_); clear E; intro g u E0 hb0; have E := Lib.hid E0; clear E0 hb0))
        go_roundw
        case rel => exact ⟨i + 1, by omega, by go_num, E.out.part _ _ (by repeat (first | exact List.Sublist.refl _ | apply List.Sublist.cons_cons | apply List.Sublist.cons)) (by simp)⟩
        case measure => simp [intOf]; try omega
    · have hi3 : ¬ ((i : Int) < 16) := by omega
      go_wp2_with (first
        | ((with_reducible refine kn_bd_if (g := g10) E.out rfl rfl rfl ?_))
        | (go_at_call 10; (with_reducible refine (hK.out _ ?ha ?hb).mono ?_); (case ha => exact E.out.bs (by simp)); (case hb => exact E.out.get (by simp)); rintro e w2 ⟨rfl, hb⟩; have E1 := Lib.hid (E.out.later hb); clear hb E; have E := E1; clear E1)
        | ((with_reducible refine kn_load E.out rfl rfl rfl rfl ?_)) | ((with_reducible refine kn_load_if E.out rfl rfl rfl rfl ?_)) | ((with_reducible refine kn_loads E.out rfl rfl rfl ?_ ?_); (focus (first | rfl | (simp only [i64s_length, u8s_length]; first | rfl | assumption | omega)))) | ((with_reducible refine kn_loads_if E.out rfl rfl rfl ?_ ?_); (focus (first | rfl | (simp only [i64s_length, u8s_length]; first | rfl | assumption | omega)))) | ((with_reducible refine kn_store1_int E.out rfl rfl rfl rfl rfl ?_); clear E; intro u E0; have E := Lib.hid E0; clear E0) | ((with_reducible refine kn_store1_slice E.out rfl rfl rfl rfl rfl ?_); clear E; intro u E0; have E := Lib.hid E0; clear E0) | ((with_reducible refine kn_store1_bool E.out rfl rfl rfl rfl rfl ?_); clear E; intro u E0; have E := Lib.hid E0; clear E0) | ((with_reducible refine kn_stores E.out rfl rfl rfl rfl rfl ?_ ?_ ?_); (focus (first | exact ⟨rfl, rfl⟩ | (simp only [i64s_length, u8s_length]; refine ⟨?_, ?_⟩ <;> first | rfl | assumption | omega))); (focus (first | exact i64s_one _ | exact u8s_one _ | simp [Value.oneCell'])); clear E; intro u E0; have E := Lib.hid E0; clear E0) | ((with_reducible refine kn_alloc E.out rfl rfl ?_); clear E; intro g u E0 hb0; have E := Lib.hid E0; clear E0 hb0) | ((with_reducible refine kn_box E.out rfl rfl rfl ?_); clear E; intro g u E0 hb0; have E := Lib.hid E0; clear E0 hb0) | ((with_reducible refine kn_box_int E.out rfl rfl rfl ?_); clear E; intro g u E0 hb0; have E := Lib.hid E0; clear E0 hb0) | ((with_reducible refine kn_box_slice E.out rfl rfl rfl ?_); clear E; intro g u E0 hb0; have E := Lib.hid E0; clear E0 hb0) | ((with_reducible refine kn_box_bool E.out rfl rfl rfl ?_); clear E; intro g u E0 hb0; have E := Lib.hid E0; clear E0 hb0) | ((with_reducible refine kn_box_func E.out rfl rfl rfl ?_); clear E; intro g u E0 hb0; have E := Lib.hid E0; clear E0 hb0))
      go_ret
      exact ⟨rfl, E.out.bel⟩
set_option maxHeartbeats 8000000 in
set_option maxRecDepth 100000 in
theorem walk_b (w : World) (hG : Glb w) (A : Option Addr) (c : Nat) (xs : List Nat) (hB : Bs w w.heap.size A 8 xs) (hd : pD xs = false) (hf : farP (pD xs) (pZ xs) 3 = 3) :
    Calls Tryd.prog 6 #[.slice A 8 c] w fun e w' => e = .returned (.bool true) ∧ Below w.heap.size w w' := by
  have E := Lib.hid (((Kn.start w).arg_glb hG).arg_bs hB)
  have hxl := hB.1
  have hx256 := hB.2.1
  have hK0 := kdN_halves xs
  have hAl := Lib.hid (fun i (hi : i < 16) => deR_alpha xs hxl i hi)
  have hCl := Lib.hid (fun i (hi : i < 16) => deR_clear xs hxl i hi)
  have hUT : deR false xs = deV 8 xs := deR_halves xs hxl hf
  have hD := Lib.hid (fun u hu hg => decode_ok2 A c false xs u hu hg)
  have hT := Lib.hid (fun u hu hg => decode_ok2 A c true xs u hu hg)
  have hO := Lib.hid (fun u hu hg => decode10 A 8 c xs u hu (by omega) hg)
  have hP := Lib.hid (fun u hu => parts_ok A c xs u hu)
  have hBa := Lib.hid (fun u => bases_any (pD xs) (pF xs) (pZ xs) u (pZ_length xs) (ok_parts xs))
  have hK := Lib.hid (fun u hu hg => kind_ok A c false xs u hu hg)
  rw [show paE 8 = 0 from rfl] at hO
  have hz24 := Lib.hid z24_length
  have hzz := Lib.hid (show (i64s z64).length = 64 from rfl)
  have hZl := Lib.hid (pZ_length xs)
  have hl1 := deR_length false xs
  have hl2 := deR_length true xs
  have hl3 := deV_length 8 xs
  have hbl := Lib.hid (baV_length (pD xs) (pZ xs))
  clear hB hG hxl hx256
  rw [hd] at hP hBa hbl hK0
  rw [hd] at hf
  generalize pF xs = f at *
  generalize farP false (pZ xs) 3 = far at *
  generalize baV false (pZ xs) = BA at *
  generalize pZ xs = Z at *
  generalize deR false xs = TV at *
  generalize deR true xs = WV at *
  generalize deV 8 xs = UV at *
  generalize kdN false xs = kd at *
  subst hUT
  obtain rfl : far = 3 := hf
  obtain rfl : kd = 0 := hK0.2 rfl
  clear hK0
  have hq : ∀ u, (Op.equalIn 10000 27 (arr TV) (arr TV)).run Tryd.prog u = .ok true u := fun u => by
    have k := eq_tile TV TV hl1 hl1 u
    rw [beq_self_eq_true] at k
    exact k
  have hl1' := Lib.hid hl1
  have hl2' := Lib.hid hl2
  have hl3' := Lib.hid hl3
  go_enter Tryd.func6, Tryd.ntmps6
  go_wp2_with (first
    | (go_at_call 7; refine (awake11 _ (E.out.get (by simp))).mono ?_; rintro e w1 ⟨rfl, hb⟩; have E1 := Lib.hid (E.out.later hb); clear hb E; have E := E1; clear E1)
    | (go_at_call 8; (with_reducible refine (hD.out _ ?ha ?hb).mono ?_); (case ha => exact E.out.bs (by simp)); (case hb => exact E.out.get (by simp)); clear hD; rintro e w2 ⟨rfl, hb⟩; have E1 := Lib.hid (E.out.later hb); clear hb E; have E := E1; clear E1)
    | (go_at_call 8; (with_reducible refine (hT.out _ ?ha ?hb).mono ?_); (case ha => exact E.out.bs (by simp)); (case hb => exact E.out.get (by simp)); clear hT; rintro e w2 ⟨rfl, hb⟩; have E1 := Lib.hid (E.out.later hb); clear hb E; have E := E1; clear E1)
    | (go_at_call 20; (with_reducible refine (hO.out _ ?ha ?hb).mono ?_); (case ha => exact E.out.bs (by simp)); (case hb => exact Glb.nums (E.out.get (by simp))); clear hO; rintro e w2 ⟨rfl, hb⟩; have E1 := Lib.hid (E.out.later hb); clear hb E; have E := E1; clear E1)
    | (go_at_call 21; (with_reducible refine (hP.out _ ?ha).mono ?_); (case ha => exact E.out.bs (by simp)); clear hP; rintro e w2 ⟨rfl, hb⟩; have E1 := Lib.hid (E.out.later hb); clear hb E; have E := E1; clear E1)
    | (go_at_call 22; (with_reducible refine (hBa.out _).mono ?_); clear hBa; rintro e w2 ⟨rfl, hb⟩; have E1 := Lib.hid (E.out.later hb); clear hb E; have E := E1; clear E1)
    | (go_at_call 10; (with_reducible refine (hK.out _ ?ha ?hb).mono ?_); (case ha => exact E.out.bs (by simp)); (case hb => exact E.out.get (by simp)); rintro e w2 ⟨rfl, hb⟩; have E1 := Lib.hid (E.out.later hb); clear hb E; have E := E1; clear E1)
    | ((with_reducible refine kn_stores (g := g4) (vs := i64s TV) E.out rfl rfl rfl rfl rfl ?hl ?h1 ?_); (case hl => exact ⟨hzz.out, by rw [i64s_length]; exact hl1'.out⟩); (case h1 => exact i64s_one _); clear E; intro u E0; have E := Lib.hid E0; clear E0)
    | ((with_reducible refine kn_stores (g := g6) (vs := i64s TV) E.out rfl rfl rfl rfl rfl ?hl ?h1 ?_); (case hl => exact ⟨hzz.out, by rw [i64s_length]; exact hl3'.out⟩); (case h1 => exact i64s_one _); clear E; intro u E0; have E := Lib.hid E0; clear E0)
    | ((with_reducible refine kn_stores (g := g8) (vs := i64s WV) E.out rfl rfl rfl rfl rfl ?hl ?h1 ?_); (case hl => exact ⟨hzz.out, by rw [i64s_length]; exact hl2'.out⟩); (case h1 => exact i64s_one _); clear E; intro u E0; have E := Lib.hid E0; clear E0)
    | ((with_reducible refine kn_bputall (g := g10) E.out rfl rfl rfl rfl rfl ?h1 ?h2 ?_); (case h1 => exact hz24.out); (case h2 => exact hZl.out); clear E; intro u E0; have E := Lib.hid E0; clear E0)
    | ((with_reducible refine kn_ball (g := g10) E.out rfl rfl rfl ?h1 ?_); (case h1 => exact hZl.out))
    | ((with_reducible refine kn_stores (g := g12) (vs := i64s BA) E.out rfl rfl rfl rfl rfl ?hl ?h1 ?_); (case hl => exact ⟨rfl, by rw [i64s_length]; exact hbl.out⟩); (case h1 => exact i64s_one _); clear E; intro u E0; have E := Lib.hid E0; clear E0)
    | ((with_reducible refine kn_loads_if (g := g4) E.out rfl rfl rfl ?hl ?_); (case hl => rw [i64s_length]; exact hl1'.out))
    | ((with_reducible refine kn_loads_if (g := g6) E.out rfl rfl rfl ?hl ?_); (case hl => rw [i64s_length]; exact hl3'.out))
    | ((with_reducible refine kn_loads_if (g := g8) E.out rfl rfl rfl ?hl ?_); (case hl => rw [i64s_length]; exact hl2'.out))
    | ((with_reducible refine kn_bd_if (g := g10) E.out rfl rfl rfl ?_))
    | ((with_reducible refine kn_load E.out rfl rfl rfl rfl ?_)) | ((with_reducible refine kn_load_if E.out rfl rfl rfl rfl ?_)) | ((with_reducible refine kn_loads E.out rfl rfl rfl ?_ ?_); (focus (first | rfl | (simp only [i64s_length, u8s_length]; first | rfl | assumption | omega)))) | ((with_reducible refine kn_loads_if E.out rfl rfl rfl ?_ ?_); (focus (first | rfl | (simp only [i64s_length, u8s_length]; first | rfl | assumption | omega)))) | ((with_reducible refine kn_store1_int E.out rfl rfl rfl rfl rfl ?_); clear E; intro u E0; have E := Lib.hid E0; clear E0) | ((with_reducible refine kn_store1_slice E.out rfl rfl rfl rfl rfl ?_); clear E; intro u E0; have E := Lib.hid E0; clear E0) | ((with_reducible refine kn_store1_bool E.out rfl rfl rfl rfl rfl ?_); clear E; intro u E0; have E := Lib.hid E0; clear E0) | ((with_reducible refine kn_stores E.out rfl rfl rfl rfl rfl ?_ ?_ ?_); (focus (first | exact ⟨rfl, rfl⟩ | (simp only [i64s_length, u8s_length]; refine ⟨?_, ?_⟩ <;> first | rfl | assumption | omega))); (focus (first | exact i64s_one _ | exact u8s_one _ | simp [Value.oneCell'])); clear E; intro u E0; have E := Lib.hid E0; clear E0) | ((with_reducible refine kn_alloc (o := ⟨some 4, _, _, _, _, _⟩) E.out rfl rfl ?_); clear E; intro g4 u E0 hb0; have E := Lib.hid E0; clear E0 hb0) | ((with_reducible refine kn_box (o := ⟨some 4, _, _, _, _, _⟩) E.out rfl rfl rfl ?_); clear E; intro g4 u E0 hb0; have E := Lib.hid E0; clear E0 hb0) | ((with_reducible refine kn_box_int (o := ⟨some 4, _, _, _, _, _⟩) E.out rfl rfl rfl ?_); clear E; intro g4 u E0 hb0; have E := Lib.hid E0; clear E0 hb0) | ((with_reducible refine kn_box_slice (o := ⟨some 4, _, _, _, _, _⟩) E.out rfl rfl rfl ?_); clear E; intro g4 u E0 hb0; have E := Lib.hid E0; clear E0 hb0) | ((with_reducible refine kn_box_bool (o := ⟨some 4, _, _, _, _, _⟩) E.out rfl rfl rfl ?_); clear E; intro g4 u E0 hb0; have E := Lib.hid E0; clear E0 hb0) | ((with_reducible refine kn_box_func (o := ⟨some 4, _, _, _, _, _⟩) E.out rfl rfl rfl ?_); clear E; intro g4 u E0 hb0; have E := Lib.hid E0; clear E0 hb0) | ((with_reducible refine kn_alloc (o := ⟨some 6, _, _, _, _, _⟩) E.out rfl rfl ?_); clear E; intro g6 u E0 hb0; have E := Lib.hid E0; clear E0 hb0) | ((with_reducible refine kn_box (o := ⟨some 6, _, _, _, _, _⟩) E.out rfl rfl rfl ?_); clear E; intro g6 u E0 hb0; have E := Lib.hid E0; clear E0 hb0) | ((with_reducible refine kn_box_int (o := ⟨some 6, _, _, _, _, _⟩) E.out rfl rfl rfl ?_); clear E; intro g6 u E0 hb0; have E := Lib.hid E0; clear E0 hb0) | ((with_reducible refine kn_box_slice (o := ⟨some 6, _, _, _, _, _⟩) E.out rfl rfl rfl ?_); clear E; intro g6 u E0 hb0; have E := Lib.hid E0; clear E0 hb0) | ((with_reducible refine kn_box_bool (o := ⟨some 6, _, _, _, _, _⟩) E.out rfl rfl rfl ?_); clear E; intro g6 u E0 hb0; have E := Lib.hid E0; clear E0 hb0) | ((with_reducible refine kn_box_func (o := ⟨some 6, _, _, _, _, _⟩) E.out rfl rfl rfl ?_); clear E; intro g6 u E0 hb0; have E := Lib.hid E0; clear E0 hb0) | ((with_reducible refine kn_alloc (o := ⟨some 8, _, _, _, _, _⟩) E.out rfl rfl ?_); clear E; intro g8 u E0 hb0; have E := Lib.hid E0; clear E0 hb0) | ((with_reducible refine kn_box (o := ⟨some 8, _, _, _, _, _⟩) E.out rfl rfl rfl ?_); clear E; intro g8 u E0 hb0; have E := Lib.hid E0; clear E0 hb0) | ((with_reducible refine kn_box_int (o := ⟨some 8, _, _, _, _, _⟩) E.out rfl rfl rfl ?_); clear E; intro g8 u E0 hb0; have E := Lib.hid E0; clear E0 hb0) | ((with_reducible refine kn_box_slice (o := ⟨some 8, _, _, _, _, _⟩) E.out rfl rfl rfl ?_); clear E; intro g8 u E0 hb0; have E := Lib.hid E0; clear E0 hb0) | ((with_reducible refine kn_box_bool (o := ⟨some 8, _, _, _, _, _⟩) E.out rfl rfl rfl ?_); clear E; intro g8 u E0 hb0; have E := Lib.hid E0; clear E0 hb0) | ((with_reducible refine kn_box_func (o := ⟨some 8, _, _, _, _, _⟩) E.out rfl rfl rfl ?_); clear E; intro g8 u E0 hb0; have E := Lib.hid E0; clear E0 hb0) | ((with_reducible refine kn_alloc (o := ⟨some 10, _, _, _, _, _⟩) E.out rfl rfl ?_); clear E; intro g10 u E0 hb0; have E := Lib.hid E0; clear E0 hb0) | ((with_reducible refine kn_box (o := ⟨some 10, _, _, _, _, _⟩) E.out rfl rfl rfl ?_); clear E; intro g10 u E0 hb0; have E := Lib.hid E0; clear E0 hb0) | ((with_reducible refine kn_box_int (o := ⟨some 10, _, _, _, _, _⟩) E.out rfl rfl rfl ?_); clear E; intro g10 u E0 hb0; have E := Lib.hid E0; clear E0 hb0) | ((with_reducible refine kn_box_slice (o := ⟨some 10, _, _, _, _, _⟩) E.out rfl rfl rfl ?_); clear E; intro g10 u E0 hb0; have E := Lib.hid E0; clear E0 hb0) | ((with_reducible refine kn_box_bool (o := ⟨some 10, _, _, _, _, _⟩) E.out rfl rfl rfl ?_); clear E; intro g10 u E0 hb0; have E := Lib.hid E0; clear E0 hb0) | ((with_reducible refine kn_box_func (o := ⟨some 10, _, _, _, _, _⟩) E.out rfl rfl rfl ?_); clear E; intro g10 u E0 hb0; have E := Lib.hid E0; clear E0 hb0) | ((with_reducible refine kn_alloc (o := ⟨some 12, _, _, _, _, _⟩) E.out rfl rfl ?_); clear E; intro g12 u E0 hb0; have E := Lib.hid E0; clear E0 hb0) | ((with_reducible refine kn_box (o := ⟨some 12, _, _, _, _, _⟩) E.out rfl rfl rfl ?_); clear E; intro g12 u E0 hb0; have E := Lib.hid E0; clear E0 hb0) | ((with_reducible refine kn_box_int (o := ⟨some 12, _, _, _, _, _⟩) E.out rfl rfl rfl ?_); clear E; intro g12 u E0 hb0; have E := Lib.hid E0; clear E0 hb0) | ((with_reducible refine kn_box_slice (o := ⟨some 12, _, _, _, _, _⟩) E.out rfl rfl rfl ?_); clear E; intro g12 u E0 hb0; have E := Lib.hid E0; clear E0 hb0) | ((with_reducible refine kn_box_bool (o := ⟨some 12, _, _, _, _, _⟩) E.out rfl rfl rfl ?_); clear E; intro g12 u E0 hb0; have E := Lib.hid E0; clear E0 hb0) | ((with_reducible refine kn_box_func (o := ⟨some 12, _, _, _, _, _⟩) E.out rfl rfl rfl ?_); clear E; intro g12 u E0 hb0; have E := Lib.hid E0; clear E0 hb0) | ((with_reducible refine kn_alloc E.out rfl rfl ?_); clear E; intro g u E0 hb0; have E := Lib.hid E0; clear E0 hb0) | ((with_reducible refine kn_box E.out rfl rfl rfl ?_); clear E; intro g u E0 hb0; have E := Lib.hid E0; clear E0 hb0) | ((with_reducible refine kn_box_int E.out rfl rfl rfl ?_); clear E; intro g u E0 hb0; have E := Lib.hid E0; clear E0 hb0) | ((with_reducible refine kn_box_slice E.out rfl rfl rfl ?_); clear E; intro g u E0 hb0; have E := Lib.hid E0; clear E0 hb0) | ((with_reducible refine kn_box_bool E.out rfl rfl rfl ?_); clear E; intro g u E0 hb0; have E := Lib.hid E0; clear E0 hb0) | ((with_reducible refine kn_box_func E.out rfl rfl rfl ?_); clear E; intro g u E0 hb0; have E := Lib.hid E0; clear E0 hb0))
  go_loopw [14] (fun ck wr => ∃ i : Nat, i ≤ 16 ∧ ck = .int .i64 (i : Int) ∧ Hid (Kn w [.row g10 48 (blk false f Z), .row g8 27 (i64s WV), .row g4 27 (i64s TV)] [bsF A 8 xs, Glb] wr)) (fun ck _ => 16 - (intOf ck).toNat)
  case atStart => exact ⟨0, by omega, rfl, E.out.part _ _ (by repeat (first | exact List.Sublist.refl _ | apply List.Sublist.cons_cons | apply List.Sublist.cons)) (by simp)⟩
  case round =>
    clear E
    obtain ⟨i, hi, rfl, E⟩ := hrel
    by_cases hlt : i < 16
    · have hi3 : (i : Int) < 16 := by omega
      have ht := hAl.out i hlt
      have hti := i64s_get TV (i * 4 + 3) (by omega)
      rw [ht] at hti
      replace hti := Lib.hid hti
      have hwl : i * 4 + 4 ≤ (i64s WV).length := by rw [i64s_length]; omega
      replace hwl := Lib.hid hwl
      by_cases hz : ((WV.drop (i * 4)).take 4) = [0, 0, 0, 0]
      · have hq0 : ∀ u, (Op.equalIn 10000 25 (arr ((WV.drop (i * 4)).take 4)) (.agg #[.int .i64 0, .int .i64 0, .int .i64 0, .int .i64 0])).run Tryd.prog u = .ok true u := fun u => by
          have k := eq_zero4 _ (show ((WV.drop (i * 4)).take 4).length = 4 from by rw [hz]; rfl) u
          rw [show (((WV.drop (i * 4)).take 4) == [0, 0, 0, 0]) = true from by rw [hz]; rfl] at k
          exact k
        clear hz ht
        go_wp2_with (first
          | ((with_reducible refine kn_load (g := g4) (i := i * 4 + 3) E.out rfl rfl rfl hti.out ?_))
          | ((with_reducible refine kn_loadp_if (g := g8) (off := i * 4) E.out rfl rfl rfl ?hl ?_); (case hl => have := hl2'.out; omega))
          | ((with_reducible refine kn_load E.out rfl rfl rfl rfl ?_)) | ((with_reducible refine kn_load_if E.out rfl rfl rfl rfl ?_)) | ((with_reducible refine kn_loads E.out rfl rfl rfl ?_ ?_); (focus (first | rfl | (simp only [i64s_length, u8s_length]; first | rfl | assumption | omega)))) | ((with_reducible refine kn_loads_if E.out rfl rfl rfl ?_ ?_); (focus (first | rfl | (simp only [i64s_length, u8s_length]; first | rfl | assumption | omega)))) | ((with_reducible refine kn_store1_int E.out rfl rfl rfl rfl rfl ?_); clear E; intro u E0; have E := Lib.hid E0; clear E0) | ((with_reducible refine kn_store1_slice E.out rfl rfl rfl rfl rfl ?_); clear E; intro u E0; have E := Lib.hid E0; clear E0) | ((with_reducible refine kn_store1_bool E.out rfl rfl rfl rfl rfl ?_); clear E; intro u E0; have E := Lib.hid E0; clear E0) | ((with_reducible refine kn_stores E.out rfl rfl rfl rfl rfl ?_ ?_ ?_); (focus (first | exact ⟨rfl, rfl⟩ | (simp only [i64s_length, u8s_length]; refine ⟨?_, ?_⟩ <;> first | rfl | assumption | omega))); (focus (first | exact i64s_one _ | exact u8s_one _ | simp [Value.oneCell'])); clear E; intro u E0; have E := Lib.hid E0; clear E0) | ((with_reducible refine kn_alloc E.out rfl rfl ?_); clear E; intro g u E0 hb0; have E := Lib.hid E0; clear E0 hb0) | ((with_reducible refine kn_box E.out rfl rfl rfl ?_); clear E; intro g u E0 hb0; have E := Lib.hid E0; clear E0 hb0) | ((with_reducible refine kn_box_int E.out rfl rfl rfl ?_); clear E; intro g u E0 hb0; have E := Lib.hid E0; clear E0 hb0) | ((with_reducible refine kn_box_slice E.out rfl rfl rfl ?_); clear E; intro g u E0 hb0; have E := Lib.hid E0; clear E0 hb0) | ((with_reducible refine kn_box_bool E.out rfl rfl rfl ?_); clear E; intro g u E0 hb0; have E := Lib.hid E0; clear E0 hb0) | ((with_reducible refine kn_box_func E.out rfl rfl rfl ?_); clear E; intro g u E0 hb0; have E := Lib.hid E0; clear E0 hb0))
        go_roundw
        case rel => exact ⟨i + 1, by omega, by go_num, E.out.part _ _ (by repeat (first | exact List.Sublist.refl _ | apply List.Sublist.cons_cons | apply List.Sublist.cons)) (by simp)⟩
        case measure => simp [intOf]; try omega
      · have hq0 : ∀ u, (Op.equalIn 10000 25 (arr ((WV.drop (i * 4)).take 4)) (.agg #[.int .i64 0, .int .i64 0, .int .i64 0, .int .i64 0])).run Tryd.prog u = .ok false u := fun u => by
          have k := eq_zero4 _ (show ((WV.drop (i * 4)).take 4).length = 4 from by rw [List.length_take, List.length_drop]; omega) u
          rw [show (((WV.drop (i * 4)).take 4) == [0, 0, 0, 0]) = false from by simp [hz]] at k
          exact k
        have hw := (hCl.out i hlt).resolve_left hz
        have hwi := i64s_get WV (i * 4 + 3) (by omega)
        rw [hw] at hwi
        replace hwi := Lib.hid hwi
        clear hz ht hw
        go_wp2_with (first
          | ((with_reducible refine kn_load (g := g4) (i := i * 4 + 3) E.out rfl rfl rfl hti.out ?_))
          | ((with_reducible refine kn_loadp_if (g := g8) (off := i * 4) E.out rfl rfl rfl ?hl ?_); (case hl => have := hl2'.out; omega))
          | ((with_reducible refine kn_load_if (g := g8) (i := i * 4 + 3) E.out rfl rfl rfl hwi.out ?_))
          | ((with_reducible refine kn_load E.out rfl rfl rfl rfl ?_)) | ((with_reducible refine kn_load_if E.out rfl rfl rfl rfl ?_)) | ((with_reducible refine kn_loads E.out rfl rfl rfl ?_ ?_); (focus (first | rfl | (simp only [i64s_length, u8s_length]; first | rfl | assumption | omega)))) | ((with_reducible refine kn_loads_if E.out rfl rfl rfl ?_ ?_); (focus (first | rfl | (simp only [i64s_length, u8s_length]; first | rfl | assumption | omega)))) | ((with_reducible refine kn_store1_int E.out rfl rfl rfl rfl rfl ?_); clear E; intro u E0; have E := Lib.hid E0; clear E0) | ((with_reducible refine kn_store1_slice E.out rfl rfl rfl rfl rfl ?_); clear E; intro u E0; have E := Lib.hid E0; clear E0) | ((with_reducible refine kn_store1_bool E.out rfl rfl rfl rfl rfl ?_); clear E; intro u E0; have E := Lib.hid E0; clear E0) | ((with_reducible refine kn_stores E.out rfl rfl rfl rfl rfl ?_ ?_ ?_); (focus (first | exact ⟨rfl, rfl⟩ | (simp only [i64s_length, u8s_length]; refine ⟨?_, ?_⟩ <;> first | rfl | assumption | omega))); (focus (first | exact i64s_one _ | exact u8s_one _ | simp [Value.oneCell'])); clear E; intro u E0; have E := Lib.hid E0; clear E0) | ((with_reducible refine kn_alloc E.out rfl rfl ?_); clear E; intro g u E0 hb0; have E := Lib.hid E0; clear E0 hb0) | ((with_reducible refine kn_box E.out rfl rfl rfl ?_); clear E; intro g u E0 hb0; have E := Lib.hid E0; clear E0 hb0) | ((with_reducible refine kn_box_int E.out rfl rfl rfl ?_); clear E; intro g u E0 hb0; have E := Lib.hid E0; clear E0 hb0) | ((with_reducible refine kn_box_slice E.out rfl rfl rfl ?_); clear E; intro g u E0 hb0; have E := Lib.hid E0; clear E0 hb0) | ((with_reducible refine kn_box_bool E.out rfl rfl rfl ?_); clear E; intro g u E0 hb0; have E := Lib.hid E0; clear E0 hb0) | ((with_reducible refine kn_box_func E.out rfl rfl rfl ?_); clear E; intro g u E0 hb0; have E := Lib.hid E0; clear E0 hb0))
        go_roundw
        case rel => exact ⟨i + 1, by omega, by go_num, E.out.part _ _ (by repeat (first | exact List.Sublist.refl _ | apply List.Sublist.cons_cons | apply List.Sublist.cons)) (by simp)⟩
        case measure => simp [intOf]; try omega
    · have hi3 : ¬ ((i : Int) < 16) := by omega
      go_wp2_with (first
        | ((with_reducible refine kn_bd_if (g := g10) E.out rfl rfl rfl ?_))
        | (go_at_call 10; (with_reducible refine (hK.out _ ?ha ?hb).mono ?_); (case ha => exact E.out.bs (by simp)); (case hb => exact E.out.get (by simp)); rintro e w2 ⟨rfl, hb⟩; have E1 := Lib.hid (E.out.later hb); clear hb E; have E := E1; clear E1)
        | ((with_reducible refine kn_load E.out rfl rfl rfl rfl ?_)) | ((with_reducible refine kn_load_if E.out rfl rfl rfl rfl ?_)) | ((with_reducible refine kn_loads E.out rfl rfl rfl ?_ ?_); (focus (first | rfl | (simp only [i64s_length, u8s_length]; first | rfl | assumption | omega)))) | ((with_reducible refine kn_loads_if E.out rfl rfl rfl ?_ ?_); (focus (first | rfl | (simp only [i64s_length, u8s_length]; first | rfl | assumption | omega)))) | ((with_reducible refine kn_store1_int E.out rfl rfl rfl rfl rfl ?_); clear E; intro u E0; have E := Lib.hid E0; clear E0) | ((with_reducible refine kn_store1_slice E.out rfl rfl rfl rfl rfl ?_); clear E; intro u E0; have E := Lib.hid E0; clear E0) | ((with_reducible refine kn_store1_bool E.out rfl rfl rfl rfl rfl ?_); clear E; intro u E0; have E := Lib.hid E0; clear E0) | ((with_reducible refine kn_stores E.out rfl rfl rfl rfl rfl ?_ ?_ ?_); (focus (first | exact ⟨rfl, rfl⟩ | (simp only [i64s_length, u8s_length]; refine ⟨?_, ?_⟩ <;> first | rfl | assumption | omega))); (focus (first | exact i64s_one _ | exact u8s_one _ | simp [Value.oneCell'])); clear E; intro u E0; have E := Lib.hid E0; clear E0) | ((with_reducible refine kn_alloc E.out rfl rfl ?_); clear E; intro g u E0 hb0; have E := Lib.hid E0; clear E0 hb0) | ((with_reducible refine kn_box E.out rfl rfl rfl ?_); clear E; intro g u E0 hb0; have E := Lib.hid E0; clear E0 hb0) | ((with_reducible refine kn_box_int E.out rfl rfl rfl ?_); clear E; intro g u E0 hb0; have E := Lib.hid E0; clear E0 hb0) | ((with_reducible refine kn_box_slice E.out rfl rfl rfl ?_); clear E; intro g u E0 hb0; have E := Lib.hid E0; clear E0 hb0) | ((with_reducible refine kn_box_bool E.out rfl rfl rfl ?_); clear E; intro g u E0 hb0; have E := Lib.hid E0; clear E0 hb0) | ((with_reducible refine kn_box_func E.out rfl rfl rfl ?_); clear E; intro g u E0 hb0; have E := Lib.hid E0; clear E0 hb0))
      go_ret
      exact ⟨rfl, E.out.bel⟩
set_option maxHeartbeats 8000000 in
set_option maxRecDepth 100000 in
theorem walk_c (w : World) (hG : Glb w) (A : Option Addr) (c : Nat) (xs : List Nat) (hB : Bs w w.heap.size A 8 xs) (hd : pD xs = true) (hf : ¬ farP (pD xs) (pZ xs) 3 = 3) :
    Calls Tryd.prog 6 #[.slice A 8 c] w fun e w' => e = .returned (.bool true) ∧ Below w.heap.size w w' := by
  have E := Lib.hid (((Kn.start w).arg_glb hG).arg_bs hB)
  have hxl := hB.1
  have hx256 := hB.2.1
  have hK0 := kdN_halves xs
  have hAl := Lib.hid (fun i (hi : i < 16) => deR_alpha xs hxl i hi)
  have hCl := Lib.hid (fun i (hi : i < 16) => deR_clear xs hxl i hi)
  have hWT : deR false xs = deR true xs := (deR_opaque xs hxl hx256 hd).symm
  have hD := Lib.hid (fun u hu hg => decode_ok2 A c false xs u hu hg)
  have hT := Lib.hid (fun u hu hg => decode_ok2 A c true xs u hu hg)
  have hO := Lib.hid (fun u hu hg => decode10 A 8 c xs u hu (by omega) hg)
  have hP := Lib.hid (fun u hu => parts_ok A c xs u hu)
  have hBa := Lib.hid (fun u => bases_any (pD xs) (pF xs) (pZ xs) u (pZ_length xs) (ok_parts xs))
  have hK := Lib.hid (fun u hu hg => kind_ok A c false xs u hu hg)
  rw [show paE 8 = 0 from rfl] at hO
  have hz24 := Lib.hid z24_length
  have hzz := Lib.hid (show (i64s z64).length = 64 from rfl)
  have hZl := Lib.hid (pZ_length xs)
  have hl1 := deR_length false xs
  have hl2 := deR_length true xs
  have hl3 := deV_length 8 xs
  have hbl := Lib.hid (baV_length (pD xs) (pZ xs))
  clear hB hG hxl hx256
  rw [hd] at hP hBa hbl hK0
  rw [hd] at hf
  generalize pF xs = f at *
  generalize farP true (pZ xs) 3 = far at *
  generalize baV true (pZ xs) = BA at *
  generalize pZ xs = Z at *
  generalize deR false xs = TV at *
  generalize deR true xs = WV at *
  generalize deV 8 xs = UV at *
  generalize kdN false xs = kd at *
  subst hWT
  have hkne : ¬ ((kd : Int) = 0) := fun h => hf (hK0.1 (by omega))
  have hfne : ¬ ((far : Int) = 3) := by omega
  have hkb : ((kd : Int) == 0) = false := by simpa using hkne
  have hfb : ((far : Int) == 3) = false := by simpa using hfne
  clear hK0 hf
  have hq : ∀ u, (Op.equalIn 10000 27 (arr TV) (arr TV)).run Tryd.prog u = .ok true u := fun u => by
    have k := eq_tile TV TV hl1 hl1 u
    rw [beq_self_eq_true] at k
    exact k
  have hl1' := Lib.hid hl1
  have hl2' := Lib.hid hl2
  have hl3' := Lib.hid hl3
  go_enter Tryd.func6, Tryd.ntmps6
  go_wp2_with (first
    | (go_at_call 7; refine (awake11 _ (E.out.get (by simp))).mono ?_; rintro e w1 ⟨rfl, hb⟩; have E1 := Lib.hid (E.out.later hb); clear hb E; have E := E1; clear E1)
    | (go_at_call 8; (with_reducible refine (hD.out _ ?ha ?hb).mono ?_); (case ha => exact E.out.bs (by simp)); (case hb => exact E.out.get (by simp)); clear hD; rintro e w2 ⟨rfl, hb⟩; have E1 := Lib.hid (E.out.later hb); clear hb E; have E := E1; clear E1)
    | (go_at_call 8; (with_reducible refine (hT.out _ ?ha ?hb).mono ?_); (case ha => exact E.out.bs (by simp)); (case hb => exact E.out.get (by simp)); clear hT; rintro e w2 ⟨rfl, hb⟩; have E1 := Lib.hid (E.out.later hb); clear hb E; have E := E1; clear E1)
    | (go_at_call 20; (with_reducible refine (hO.out _ ?ha ?hb).mono ?_); (case ha => exact E.out.bs (by simp)); (case hb => exact Glb.nums (E.out.get (by simp))); clear hO; rintro e w2 ⟨rfl, hb⟩; have E1 := Lib.hid (E.out.later hb); clear hb E; have E := E1; clear E1)
    | (go_at_call 21; (with_reducible refine (hP.out _ ?ha).mono ?_); (case ha => exact E.out.bs (by simp)); clear hP; rintro e w2 ⟨rfl, hb⟩; have E1 := Lib.hid (E.out.later hb); clear hb E; have E := E1; clear E1)
    | (go_at_call 22; (with_reducible refine (hBa.out _).mono ?_); clear hBa; rintro e w2 ⟨rfl, hb⟩; have E1 := Lib.hid (E.out.later hb); clear hb E; have E := E1; clear E1)
    | (go_at_call 10; (with_reducible refine (hK.out _ ?ha ?hb).mono ?_); (case ha => exact E.out.bs (by simp)); (case hb => exact E.out.get (by simp)); rintro e w2 ⟨rfl, hb⟩; have E1 := Lib.hid (E.out.later hb); clear hb E; have E := E1; clear E1)
    | ((with_reducible refine kn_stores (g := g4) (vs := i64s TV) E.out rfl rfl rfl rfl rfl ?hl ?h1 ?_); (case hl => exact ⟨hzz.out, by rw [i64s_length]; exact hl1'.out⟩); (case h1 => exact i64s_one _); clear E; intro u E0; have E := Lib.hid E0; clear E0)
    | ((with_reducible refine kn_stores (g := g6) (vs := i64s UV) E.out rfl rfl rfl rfl rfl ?hl ?h1 ?_); (case hl => exact ⟨hzz.out, by rw [i64s_length]; exact hl3'.out⟩); (case h1 => exact i64s_one _); clear E; intro u E0; have E := Lib.hid E0; clear E0)
    | ((with_reducible refine kn_stores (g := g8) (vs := i64s TV) E.out rfl rfl rfl rfl rfl ?hl ?h1 ?_); (case hl => exact ⟨hzz.out, by rw [i64s_length]; exact hl2'.out⟩); (case h1 => exact i64s_one _); clear E; intro u E0; have E := Lib.hid E0; clear E0)
    | ((with_reducible refine kn_bputall (g := g10) E.out rfl rfl rfl rfl rfl ?h1 ?h2 ?_); (case h1 => exact hz24.out); (case h2 => exact hZl.out); clear E; intro u E0; have E := Lib.hid E0; clear E0)
    | ((with_reducible refine kn_ball (g := g10) E.out rfl rfl rfl ?h1 ?_); (case h1 => exact hZl.out))
    | ((with_reducible refine kn_stores (g := g12) (vs := i64s BA) E.out rfl rfl rfl rfl rfl ?hl ?h1 ?_); (case hl => exact ⟨rfl, by rw [i64s_length]; exact hbl.out⟩); (case h1 => exact i64s_one _); clear E; intro u E0; have E := Lib.hid E0; clear E0)
    | ((with_reducible refine kn_loads_if (g := g4) E.out rfl rfl rfl ?hl ?_); (case hl => rw [i64s_length]; exact hl1'.out))
    | ((with_reducible refine kn_loads_if (g := g6) E.out rfl rfl rfl ?hl ?_); (case hl => rw [i64s_length]; exact hl3'.out))
    | ((with_reducible refine kn_loads_if (g := g8) E.out rfl rfl rfl ?hl ?_); (case hl => rw [i64s_length]; exact hl2'.out))
    | ((with_reducible refine kn_bd_if (g := g10) E.out rfl rfl rfl ?_))
    | ((with_reducible refine kn_load E.out rfl rfl rfl rfl ?_)) | ((with_reducible refine kn_load_if E.out rfl rfl rfl rfl ?_)) | ((with_reducible refine kn_loads E.out rfl rfl rfl ?_ ?_); (focus (first | rfl | (simp only [i64s_length, u8s_length]; first | rfl | assumption | omega)))) | ((with_reducible refine kn_loads_if E.out rfl rfl rfl ?_ ?_); (focus (first | rfl | (simp only [i64s_length, u8s_length]; first | rfl | assumption | omega)))) | ((with_reducible refine kn_store1_int E.out rfl rfl rfl rfl rfl ?_); clear E; intro u E0; have E := Lib.hid E0; clear E0) | ((with_reducible refine kn_store1_slice E.out rfl rfl rfl rfl rfl ?_); clear E; intro u E0; have E := Lib.hid E0; clear E0) | ((with_reducible refine kn_store1_bool E.out rfl rfl rfl rfl rfl ?_); clear E; intro u E0; have E := Lib.hid E0; clear E0) | ((with_reducible refine kn_stores E.out rfl rfl rfl rfl rfl ?_ ?_ ?_); (focus (first | exact ⟨rfl, rfl⟩ | (simp only [i64s_length, u8s_length]; refine ⟨?_, ?_⟩ <;> first | rfl | assumption | omega))); (focus (first | exact i64s_one _ | exact u8s_one _ | simp [Value.oneCell'])); clear E; intro u E0; have E := Lib.hid E0; clear E0) | ((with_reducible refine kn_alloc (o := ⟨some 4, _, _, _, _, _⟩) E.out rfl rfl ?_); clear E; intro g4 u E0 hb0; have E := Lib.hid E0; clear E0 hb0) | ((with_reducible refine kn_box (o := ⟨some 4, _, _, _, _, _⟩) E.out rfl rfl rfl ?_); clear E; intro g4 u E0 hb0; have E := Lib.hid E0; clear E0 hb0) | ((with_reducible refine kn_box_int (o := ⟨some 4, _, _, _, _, _⟩) E.out rfl rfl rfl ?_); clear E; intro g4 u E0 hb0; have E := Lib.hid E0; clear E0 hb0) | ((with_reducible refine kn_box_slice (o := ⟨some 4, _, _, _, _, _⟩) E.out rfl rfl rfl ?_); clear E; intro g4 u E0 hb0; have E := Lib.hid E0; clear E0 hb0) | ((with_reducible refine kn_box_bool (o := ⟨some 4, _, _, _, _, _⟩) E.out rfl rfl rfl ?_); clear E; intro g4 u E0 hb0; have E := Lib.hid E0; clear E0 hb0) | ((with_reducible refine kn_box_func (o := ⟨some 4, _, _, _, _, _⟩) E.out rfl rfl rfl ?_); clear E; intro g4 u E0 hb0; have E := Lib.hid E0; clear E0 hb0) | ((with_reducible refine kn_alloc (o := ⟨some 6, _, _, _, _, _⟩) E.out rfl rfl ?_); clear E; intro g6 u E0 hb0; have E := Lib.hid E0; clear E0 hb0) | ((with_reducible refine kn_box (o := ⟨some 6, _, _, _, _, _⟩) E.out rfl rfl rfl ?_); clear E; intro g6 u E0 hb0; have E := Lib.hid E0; clear E0 hb0) | ((with_reducible refine kn_box_int (o := ⟨some 6, _, _, _, _, _⟩) E.out rfl rfl rfl ?_); clear E; intro g6 u E0 hb0; have E := Lib.hid E0; clear E0 hb0) | ((with_reducible refine kn_box_slice (o := ⟨some 6, _, _, _, _, _⟩) E.out rfl rfl rfl ?_); clear E; intro g6 u E0 hb0; have E := Lib.hid E0; clear E0 hb0) | ((with_reducible refine kn_box_bool (o := ⟨some 6, _, _, _, _, _⟩) E.out rfl rfl rfl ?_); clear E; intro g6 u E0 hb0; have E := Lib.hid E0; clear E0 hb0) | ((with_reducible refine kn_box_func (o := ⟨some 6, _, _, _, _, _⟩) E.out rfl rfl rfl ?_); clear E; intro g6 u E0 hb0; have E := Lib.hid E0; clear E0 hb0) | ((with_reducible refine kn_alloc (o := ⟨some 8, _, _, _, _, _⟩) E.out rfl rfl ?_); clear E; intro g8 u E0 hb0; have E := Lib.hid E0; clear E0 hb0) | ((with_reducible refine kn_box (o := ⟨some 8, _, _, _, _, _⟩) E.out rfl rfl rfl ?_); clear E; intro g8 u E0 hb0; have E := Lib.hid E0; clear E0 hb0) | ((with_reducible refine kn_box_int (o := ⟨some 8, _, _, _, _, _⟩) E.out rfl rfl rfl ?_); clear E; intro g8 u E0 hb0; have E := Lib.hid E0; clear E0 hb0) | ((with_reducible refine kn_box_slice (o := ⟨some 8, _, _, _, _, _⟩) E.out rfl rfl rfl ?_); clear E; intro g8 u E0 hb0; have E := Lib.hid E0; clear E0 hb0) | ((with_reducible refine kn_box_bool (o := ⟨some 8, _, _, _, _, _⟩) E.out rfl rfl rfl ?_); clear E; intro g8 u E0 hb0; have E := Lib.hid E0; clear E0 hb0) | ((with_reducible refine kn_box_func (o := ⟨some 8, _, _, _, _, _⟩) E.out rfl rfl rfl ?_); clear E; intro g8 u E0 hb0; have E := Lib.hid E0; clear E0 hb0) | ((with_reducible refine kn_alloc (o := ⟨some 10, _, _, _, _, _⟩) E.out rfl rfl ?_); clear E; intro g10 u E0 hb0; have E := Lib.hid E0; clear E0 hb0) | ((with_reducible refine kn_box (o := ⟨some 10, _, _, _, _, _⟩) E.out rfl rfl rfl ?_); clear E; intro g10 u E0 hb0; have E := Lib.hid E0; clear E0 hb0) | ((with_reducible refine kn_box_int (o := ⟨some 10, _, _, _, _, _⟩) E.out rfl rfl rfl ?_); clear E; intro g10 u E0 hb0; have E := Lib.hid E0; clear E0 hb0) | ((with_reducible refine kn_box_slice (o := ⟨some 10, _, _, _, _, _⟩) E.out rfl rfl rfl ?_); clear E; intro g10 u E0 hb0; have E := Lib.hid E0; clear E0 hb0) | ((with_reducible refine kn_box_bool (o := ⟨some 10, _, _, _, _, _⟩) E.out rfl rfl rfl ?_); clear E; intro g10 u E0 hb0; have E := Lib.hid E0; clear E0 hb0) | ((with_reducible refine kn_box_func (o := ⟨some 10, _, _, _, _, _⟩) E.out rfl rfl rfl ?_); clear E; intro g10 u E0 hb0; have E := Lib.hid E0; clear E0 hb0) | ((with_reducible refine kn_alloc (o := ⟨some 12, _, _, _, _, _⟩) E.out rfl rfl ?_); clear E; intro g12 u E0 hb0; have E := Lib.hid E0; clear E0 hb0) | ((with_reducible refine kn_box (o := ⟨some 12, _, _, _, _, _⟩) E.out rfl rfl rfl ?_); clear E; intro g12 u E0 hb0; have E := Lib.hid E0; clear E0 hb0) | ((with_reducible refine kn_box_int (o := ⟨some 12, _, _, _, _, _⟩) E.out rfl rfl rfl ?_); clear E; intro g12 u E0 hb0; have E := Lib.hid E0; clear E0 hb0) | ((with_reducible refine kn_box_slice (o := ⟨some 12, _, _, _, _, _⟩) E.out rfl rfl rfl ?_); clear E; intro g12 u E0 hb0; have E := Lib.hid E0; clear E0 hb0) | ((with_reducible refine kn_box_bool (o := ⟨some 12, _, _, _, _, _⟩) E.out rfl rfl rfl ?_); clear E; intro g12 u E0 hb0; have E := Lib.hid E0; clear E0 hb0) | ((with_reducible refine kn_box_func (o := ⟨some 12, _, _, _, _, _⟩) E.out rfl rfl rfl ?_); clear E; intro g12 u E0 hb0; have E := Lib.hid E0; clear E0 hb0) | ((with_reducible refine kn_alloc E.out rfl rfl ?_); clear E; intro g u E0 hb0; have E := Lib.hid E0; clear E0 hb0) | ((with_reducible refine kn_box E.out rfl rfl rfl ?_); clear E; intro g u E0 hb0; have E := Lib.hid E0; clear E0 hb0) | ((with_reducible refine kn_box_int E.out rfl rfl rfl ?_); clear E; intro g u E0 hb0; have E := Lib.hid E0; clear E0 hb0) | ((with_reducible refine kn_box_slice E.out rfl rfl rfl ?_); clear E; intro g u E0 hb0; have E := Lib.hid E0; clear E0 hb0) | ((with_reducible refine kn_box_bool E.out rfl rfl rfl ?_); clear E; intro g u E0 hb0; have E := Lib.hid E0; clear E0 hb0) | ((with_reducible refine kn_box_func E.out rfl rfl rfl ?_); clear E; intro g u E0 hb0; have E := Lib.hid E0; clear E0 hb0))
  go_loopw [14] (fun ck wr => ∃ i : Nat, i ≤ 16 ∧ ck = .int .i64 (i : Int) ∧ Hid (Kn w [.row g10 48 (blk true f Z), .row g8 27 (i64s TV), .row g4 27 (i64s TV)] [bsF A 8 xs, Glb] wr)) (fun ck _ => 16 - (intOf ck).toNat)
  case atStart => exact ⟨0, by omega, rfl, E.out.part _ _ (by repeat (first | exact List.Sublist.refl _ | apply List.Sublist.cons_cons | apply List.Sublist.cons)) (by simp)⟩
  case round =>
    clear E
    obtain ⟨i, hi, rfl, E⟩ := hrel
    by_cases hlt : i < 16
    · have hi3 : (i : Int) < 16 := by omega
      have ht := hAl.out i hlt
      have hti := i64s_get TV (i * 4 + 3) (by omega)
      rw [ht] at hti
      replace hti := Lib.hid hti
      have hwl : i * 4 + 4 ≤ (i64s TV).length := by rw [i64s_length]; omega
      replace hwl := Lib.hid hwl
      by_cases hz : ((TV.drop (i * 4)).take 4) = [0, 0, 0, 0]
      · have hq0 : ∀ u, (Op.equalIn 10000 25 (arr ((TV.drop (i * 4)).take 4)) (.agg #[.int .i64 0, .int .i64 0, .int .i64 0, .int .i64 0])).run Tryd.prog u = .ok true u := fun u => by
          have k := eq_zero4 _ (show ((TV.drop (i * 4)).take 4).length = 4 from by rw [hz]; rfl) u
          rw [show (((TV.drop (i * 4)).take 4) == [0, 0, 0, 0]) = true from by rw [hz]; rfl] at k
          exact k
        clear hz ht
        go_wp2_with (first
          | ((with_reducible refine kn_load (g := g4) (i := i * 4 + 3) E.out rfl rfl rfl hti.out ?_))
          | ((with_reducible refine kn_loadp_if (g := g8) (off := i * 4) E.out rfl rfl rfl ?hl ?_); (case hl => have := hl2'.out; omega))
          | ((with_reducible refine kn_load E.out rfl rfl rfl rfl ?_)) | ((with_reducible refine kn_load_if E.out rfl rfl rfl rfl ?_)) | ((with_reducible refine kn_loads E.out rfl rfl rfl ?_ ?_); (focus (first | rfl | (simp only [i64s_length, u8s_length]; first | rfl | assumption | omega)))) | ((with_reducible refine kn_loads_if E.out rfl rfl rfl ?_ ?_); (focus (first | rfl | (simp only [i64s_length, u8s_length]; first | rfl | assumption | omega)))) | ((with_reducible refine kn_store1_int E.out rfl rfl rfl rfl rfl ?_); clear E; intro u E0; have E := Lib.hid E0; clear E0) | ((with_reducible refine kn_store1_slice E.out rfl rfl rfl rfl rfl ?_); clear E; intro u E0; have E := Lib.hid E0; clear E0) | ((with_reducible refine kn_store1_bool E.out rfl rfl rfl rfl rfl ?_); clear E; intro u E0; have E := Lib.hid E0; clear E0) | ((with_reducible refine kn_stores E.out rfl rfl rfl rfl rfl ?_ ?_ ?_); (focus (first | exact ⟨rfl, rfl⟩ | (simp only [i64s_length, u8s_length]; refine ⟨?_, ?_⟩ <;> first | rfl | assumption | omega))); (focus (first | exact i64s_one _ | exact u8s_one _ | simp [Value.oneCell'])); clear E; intro u E0; have E := Lib.hid E0; clear E0) | ((with_reducible refine kn_alloc E.out rfl rfl ?_); clear E; intro g u E0 hb0; have E := Lib.hid E0; clear E0 hb0) | ((with_reducible refine kn_box E.out rfl rfl rfl ?_); clear E; intro g u E0 hb0; have E := Lib.hid E0; clear E0 hb0) | ((with_reducible refine kn_box_int E.out rfl rfl rfl ?_); clear E; intro g u E0 hb0; have E := Lib.hid E0; clear E0 hb0) | ((with_reducible refine kn_box_slice E.out rfl rfl rfl ?_); clear E; intro g u E0 hb0; have E := Lib.hid E0; clear E0 hb0) | ((with_reducible refine kn_box_bool E.out rfl rfl rfl ?_); clear E; intro g u E0 hb0; have E := Lib.hid E0; clear E0 hb0) | ((with_reducible refine kn_box_func E.out rfl rfl rfl ?_); clear E; intro g u E0 hb0; have E := Lib.hid E0; clear E0 hb0))
        go_roundw
        case rel => exact ⟨i + 1, by omega, by go_num, E.out.part _ _ (by repeat (first | exact List.Sublist.refl _ | apply List.Sublist.cons_cons | apply List.Sublist.cons)) (by simp)⟩
        case measure => simp [intOf]; try omega
      · have hq0 : ∀ u, (Op.equalIn 10000 25 (arr ((TV.drop (i * 4)).take 4)) (.agg #[.int .i64 0, .int .i64 0, .int .i64 0, .int .i64 0])).run Tryd.prog u = .ok false u := fun u => by
          have k := eq_zero4 _ (show ((TV.drop (i * 4)).take 4).length = 4 from by rw [List.length_take, List.length_drop]; omega) u
          rw [show (((TV.drop (i * 4)).take 4) == [0, 0, 0, 0]) = false from by simp [hz]] at k
          exact k
        have hw := (hCl.out i hlt).resolve_left hz
        have hwi := i64s_get TV (i * 4 + 3) (by omega)
        rw [hw] at hwi
        replace hwi := Lib.hid hwi
        clear hz ht hw
        go_wp2_with (first
          | ((with_reducible refine kn_load (g := g4) (i := i * 4 + 3) E.out rfl rfl rfl hti.out ?_))
          | ((with_reducible refine kn_loadp_if (g := g8) (off := i * 4) E.out rfl rfl rfl ?hl ?_); (case hl => have := hl2'.out; omega))
          | ((with_reducible refine kn_load_if (g := g8) (i := i * 4 + 3) E.out rfl rfl rfl hwi.out ?_))
          | ((with_reducible refine kn_load E.out rfl rfl rfl rfl ?_)) | ((with_reducible refine kn_load_if E.out rfl rfl rfl rfl ?_)) | ((with_reducible refine kn_loads E.out rfl rfl rfl ?_ ?_); (focus (first | rfl | (simp only [i64s_length, u8s_length]; first | rfl | assumption | omega)))) | ((with_reducible refine kn_loads_if E.out rfl rfl rfl ?_ ?_); (focus (first | rfl | (simp only [i64s_length, u8s_length]; first | rfl | assumption | omega)))) | ((with_reducible refine kn_store1_int E.out rfl rfl rfl rfl rfl ?_); clear E; intro u E0; have E := Lib.hid E0; clear E0) | ((with_reducible refine kn_store1_slice E.out rfl rfl rfl rfl rfl ?_); clear E; intro u E0; have E := Lib.hid E0; clear E0) | ((with_reducible refine kn_store1_bool E.out rfl rfl rfl rfl rfl ?_); clear E; intro u E0; have E := Lib.hid E0; clear E0) | ((with_reducible refine kn_stores E.out rfl rfl rfl rfl rfl ?_ ?_ ?_); (focus (first | exact ⟨rfl, rfl⟩ | (simp only [i64s_length, u8s_length]; refine ⟨?_, ?_⟩ <;> first | rfl | assumption | omega))); (focus (first | exact i64s_one _ | exact u8s_one _ | simp [Value.oneCell'])); clear E; intro u E0; have E := Lib.hid E0; clear E0) | ((with_reducible refine kn_alloc E.out rfl rfl ?_); clear E; intro g u E0 hb0; have E := Lib.hid E0; clear E0 hb0) | ((with_reducible refine kn_box E.out rfl rfl rfl ?_); clear E; intro g u E0 hb0; have E := Lib.hid E0; clear E0 hb0) | ((with_reducible refine kn_box_int E.out rfl rfl rfl ?_); clear E; intro g u E0 hb0; have E := Lib.hid E0; clear E0 hb0) | ((with_reducible refine kn_box_slice E.out rfl rfl rfl ?_); clear E; intro g u E0 hb0; have E := Lib.hid E0; clear E0 hb0) | ((with_reducible refine kn_box_bool E.out rfl rfl rfl ?_); clear E; intro g u E0 hb0; have E := Lib.hid E0; clear E0 hb0) | ((with_reducible refine kn_box_func E.out rfl rfl rfl ?_); clear E; intro g u E0 hb0; have E := Lib.hid E0; clear E0 hb0))
        go_roundw
        case rel => exact ⟨i + 1, by omega, by go_num, E.out.part _ _ (by repeat (first | exact List.Sublist.refl _ | apply List.Sublist.cons_cons | apply List.Sublist.cons)) (by simp)⟩
        case measure => simp [intOf]; try omega
    · have hi3 : ¬ ((i : Int) < 16) := by omega
      go_wp2_with (first
        | ((with_reducible refine kn_bd_if (g := g10) E.out rfl rfl rfl ?_))
        | (go_at_call 10; (with_reducible refine (hK.out _ ?ha ?hb).mono ?_); (case ha => exact E.out.bs (by simp)); (case hb => exact E.out.get (by simp)); rintro e w2 ⟨rfl, hb⟩; have E1 := Lib.hid (E.out.later hb); clear hb E; have E := E1; clear E1)
        | ((with_reducible refine kn_load E.out rfl rfl rfl rfl ?_)) | ((with_reducible refine kn_load_if E.out rfl rfl rfl rfl ?_)) | ((with_reducible refine kn_loads E.out rfl rfl rfl ?_ ?_); (focus (first | rfl | (simp only [i64s_length, u8s_length]; first | rfl | assumption | omega)))) | ((with_reducible refine kn_loads_if E.out rfl rfl rfl ?_ ?_); (focus (first | rfl | (simp only [i64s_length, u8s_length]; first | rfl | assumption | omega)))) | ((with_reducible refine kn_store1_int E.out rfl rfl rfl rfl rfl ?_); clear E; intro u E0; have E := Lib.hid E0; clear E0) | ((with_reducible refine kn_store1_slice E.out rfl rfl rfl rfl rfl ?_); clear E; intro u E0; have E := Lib.hid E0; clear E0) | ((with_reducible refine kn_store1_bool E.out rfl rfl rfl rfl rfl ?_); clear E; intro u E0; have E := Lib.hid E0; clear E0) | ((with_reducible refine kn_stores E.out rfl rfl rfl rfl rfl ?_ ?_ ?_); (focus (first | exact ⟨rfl, rfl⟩ | (simp only [i64s_length, u8s_length]; refine ⟨?_, ?_⟩ <;> first | rfl | assumption | omega))); (focus (first | exact i64s_one _ | exact u8s_one _ | simp [Value.oneCell'])); clear E; intro u E0; have E := Lib.hid E0; clear E0) | ((with_reducible refine kn_alloc E.out rfl rfl ?_); clear E; intro g u E0 hb0; have E := Lib.hid E0; clear E0 hb0) | ((with_reducible refine kn_box E.out rfl rfl rfl ?_); clear E; intro g u E0 hb0; have E := Lib.hid E0; clear E0 hb0) | ((with_reducible refine kn_box_int E.out rfl rfl rfl ?_); clear E; intro g u E0 hb0; have E := Lib.hid E0; clear E0 hb0) | ((with_reducible refine kn_box_slice E.out rfl rfl rfl ?_); clear E; intro g u E0 hb0; have E := Lib.hid E0; clear E0 hb0) | ((with_reducible refine kn_box_bool E.out rfl rfl rfl ?_); clear E; intro g u E0 hb0; have E := Lib.hid E0; clear E0 hb0) | ((with_reducible refine kn_box_func E.out rfl rfl rfl ?_); clear E; intro g u E0 hb0; have E := Lib.hid E0; clear E0 hb0))
      go_ret
      exact ⟨rfl, E.out.bel⟩
theorem walk (w : World) (hG : Glb w) (A : Option Addr) (n c : Nat) (xs : List Nat) (hB : Bs w w.heap.size A n xs) (hc : n ≤ c) (hcm : c ≤ 9223372036854775807) :
    Calls Tryd.prog 6 #[.slice A n c] w fun e w' => e = .returned (.bool true) ∧ Below w.heap.size w w' := by
  by_cases h8 : n = 8
  · subst h8
    by_cases hf : farP (pD xs) (pZ xs) 3 = 3
    · by_cases hd : pD xs = true
      · exact walk_a w hG A c xs hB hd hf
      · exact walk_b w hG A c xs hB (by simpa using hd) hf
    · have hd : pD xs = true := Classical.byContradiction fun h => hf ((kdN_halves xs).1 (kdN_nodiff xs (by simpa using h)))
      exact walk_c w hG A c xs hB hd hf
  · exact walk_far w hG A n c h8 (by omega)

theorem laidOut : laidOutB Tryd.prog = true := by kernel_rfl
set_option maxRecDepth 100000 in
theorem contract (H : Type) (enc : TypeId × Value → H) (W : World) (base : Nat) (args : Array Value) (ds gs : List (DataW H)) (before : List MemPlace)
    (hval0 : ∀ (j : Nat) t v, Tryd.f6.params[j]? = some t → args[j]? = some v → Value.okWide Tryd.prog W .any base t v)
    (hW : DataW.Whole enc Tryd.prog Tryd.f6.params.toList Rows.etctwoOlderSpec.vars false W args.toList ds gs before) (hL : laidMetH Tryd.prog Rows.etctwoOlderRow.laid W) :
    Calls Tryd.prog 6 args W fun e W' => ∃ v, e = .returned v ∧ Rows.etctwoOlderSpec.post enc Tryd.prog Tryd.f6 false true false false W args v W' := by
  have hval : ∀ (j : Nat) t v, Tryd.f6.params[j]? = some t → args[j]? = some v → Value.okWide Tryd.prog W .any base t v := hval0
  have hW' := hW
  obtain ⟨p, q, hA0, hV, rfl, hfz, hnd⟩ := hW
  have hA : DataW.TrodAll enc Tryd.prog W 0 (fun _ => true) true Tryd.f6.params.toList args.toList ds p := hA0
  rw [Tryd.params6] at hA hval
  obtain ⟨v0, vs0, d0, ds0, p0, q0, hargs, rfl, rfl, h0, r0⟩ := trodAll_cons hA
  obtain ⟨rfl, rfl, rfl⟩ := trodAll_nil r0
  obtain rfl : args = #[v0] := by cases args; simp_all
  have lt0 : ∀ x ∈ p0, x.block < W.heap.size := by obtain ⟨m, hm⟩ := h0; exact DataW.trod_lt m _ _ _ hm
  obtain ⟨rfl, rfl⟩ := trodVars_none hV
  obtain ⟨A0, n0, c0, xs0, rfl, hB0, hc0, hcm0⟩ := open_bytes Tryd.underlying22 Tryd.underlying5 (by kernel_rfl) (hval 0 22 v0 rfl rfl) h0
  clear hA0 hval0
  refine (walk W (tabs hL) A0 n0 c0 xs0 hB0 hc0 hcm0).mono fun e W' ⟨he, bel⟩ => ?_
  subst he
  exact ⟨_, rfl, _, _, _, [], _, [], hW', trodAll_mk1 (shut_bool Tryd.underlying4 _), (trodAll_cons_mk (Below.trod laidOut (by kernel_rfl) (of_decide_eq_true (by kernel_rfl)) h0 bel lt0) trodAll_mk0), rfl, bel.frame _, fun h => by cases h⟩

theorem reads (os : Os) {H : Type} (enc : TypeId × Value → H) : ∃ places, DataW.whole enc Tryd.prog ((laidWorld os).forCall (fun _ _ => 0) ⟨#[], #[.slice none 0 0], []⟩).memory Tryd.f6.params.toList Rows.etctwoOlderSpec.vars false (#[.slice none 0 0] : Array Value).toList 8 = some ([.nil], [], places) :=
  ⟨[], by kernel_rfl⟩

set_option maxRecDepth 100000 in
theorem lifted (os : Os) (started : os.Started) (H : Type) (enc : TypeId × Value → H) (F : Stop.Interp) :
    ReturnsInHanded {} Tryd.checked os 6 .any ((OpenSpec.ofChange Rows.etctwoOlderSpec).preRow enc Tryd.prog Tryd.f6 Rows.etctwoOlderRow.domain false Rows.etctwoOlderRow.laid) (((OpenSpec.ofChange Rows.etctwoOlderSpec).at F).post enc Tryd.prog Tryd.f6 false true false false) := by
  obtain ⟨places, hx⟩ := reads os enc
  refine returnsInHanded_of_row (C := Tryd.checked) (s := OpenSpec.ofChange Rows.etctwoOlderSpec) own started (by kernel_rfl) Tryd.func6
    (witness_row_at (enc := enc) (C := Tryd.checked) false (laidWorld os) #[.slice none 0 0] rfl (by kernel_rfl) (by kernel_rfl) (by kernel_rfl)
      (OpenSpec.preRow_of_cond 8 hx (by kernel_rfl) (fun k hk => by cases hk) (by kernel_rfl) (laid_met os _))) ?_
  intro W base args ds gs before hval hW _ _ _ hL _ _
  exact contract H enc W base args ds gs before hval hW hL

theorem said : Rows.EtctwoOlderSaid :=
  OpenClaim.holds_of_cond 6 Tryd.f6 rfl rfl rfl rfl rfl rfl rfl ⟨rfl, rfl, rfl, rfl, rfl⟩ rfl rfl rfl rfl rfl (by kernel_rfl) Tryd.func6 (by kernel_rfl)
    (of_decide_eq_true (by kernel_rfl)) (by unfold Func.isWrapper; first | (rw [if_pos (by decide +kernel)]; kernel_rfl) | (rw [if_neg (by decide +kernel)]; exact ⟨rfl, rfl⟩))
    (fun os started H enc _ F => by rw [OpenClaim.pre_eq_preRow]; exact lifted os started H enc F)

theorem plain (f : FuncId) (fn : Func) (hf : Tryd.pinned.checked.prog.funcNamed "swatch/swatchlaw11.EtctwoOlder" = some f) (hfn : Tryd.pinned.checked.prog.funcs[f]? = some fn) :
    false = Tryd.pinned.checked.prog.looks [] ∧ ∀ (j : Nat) t, fn.params[j]? = some t → Tryd.pinned.checked.prog.wantsStandIn t = false := by
  obtain rfl : f = 6 := Option.some.inj ((show Tryd.prog.funcNamed "swatch/swatchlaw11.EtctwoOlder" = some 6 by kernel_rfl).symm.trans hf) |>.symm
  obtain rfl : fn = Tryd.f6 := (Option.some.inj (Tryd.func6.symm.trans hfn)).symm
  refine ⟨by kernel_rfl, fun j t ht => ?_⟩
  rw [Tryd.params6] at ht
  have hm := Array.mem_of_getElem? ht
  simp only [List.mem_toArray, List.mem_cons, List.not_mem_nil, or_false] at hm
  obtain rfl := hm
  exact (show Tryd.prog.wantsStandIn 22 = false by kernel_rfl)

theorem card : Rows.EtctwoOlderCardSaid :=
  Claim7.holds_tied_plain_at .later [] _ _ _ _ said (fun _ h => by cases h) (by kernel_rfl) (fun _ h => by cases h) etctwoOlder_row_tie rfl ⟨rfl, rfl⟩ (by kernel_rfl) rfl plain (by kernel_rfl)
end Go.Proofs.YtgcijioiicmjiaaDoor.etctwoOlder

namespace Go.Proofs.YtgcijioiicmjiaaDoor
theorem etctwoOlder_holds : Rows.EtctwoOlderCardSaid := etctwoOlder.card
#print axioms etctwoOlder_holds
end Go.Proofs.YtgcijioiicmjiaaDoor
