/- The law's first look at ETC2 blocks: a planar one, and one of H. -/
import Derived.Test.YtgcijioiicmjiaaDoorE2Any
import Derived.Test.YtgcijioiicmjiaaDoorE2Alpha
set_option linter.all false
namespace Go.Proofs.YtgcijioiicmjiaaDoor
open Go.RowKit
open Bi Lv Eo Et
open Bc (z8 z8_lt)

namespace Et
def aw0 : List Int := [63, 0, 10, 0, 127, 10, 63, 0, 10]
theorem aw_okZ : okZ aw0 := by decide +kernel
def awB : List Nat := lB (lL aw0)
theorem awB_length : awB.length = 8 := lB_length _
theorem awB_kind : kdN true awB = 3 := lB_kind _ _
theorem aw_plane : ((plV (colP 63 0 10) (colP 0 127 10) (colP 63 0 10)).drop 0).take 4 = [255, 0, 40, 255] ∧ ((plV (colP 63 0 10) (colP 0 127 10) (colP 63 0 10)).drop 4).take 4 = [191, 64, 40, 255] ∧ ((plV (colP 63 0 10) (colP 0 127 10) (colP 63 0 10)).drop 16).take 4 = [255, 0, 40, 255] := by decide +kernel
theorem awB_tex : deR false awB = plV (colP 63 0 10) (colP 0 127 10) (colP 63 0 10) := by
  rw [deR_d2V _ _ awB_length]
  exact lB_texels (lL aw0) (okL_of aw0 aw_okZ) false
def awC : List Nat := [0, 4, 0, 2, 0, 0, 0, 0]
theorem awC_lt : ∀ x ∈ awC, x < 256 := by decide
theorem awC_kind : kdN false awC = 2 := by decide +kernel
theorem awC_tex : (deR false awC).getD 3 0 = 255 := deR_alpha awC rfl 0 (by omega)
theorem aw_dist : disV 7 = 64 := by decide
end Et
theorem Kn.new_bytes {w u : World} {R : List Res} {F : List (World → Prop)} (E : Kn w R F u) [NoU8 R] (t : TypeId) (xs : List Nat) (hx : ∀ x ∈ xs, x < 256) (n : Nat) (hl : xs.length = n) : Kn w R (bsF (some ⟨u.heap.size, 0, none⟩) n xs :: rowF u.heap.size t (u8s xs) :: F) (u.alloc (.cells (u8s xs).toArray t)) := by
  have E0 := E.new t (u8s xs)
  have hB := E0.row_bs (g := u.heap.size) hx n hl
  exact (E0.rest u.heap.size).new_bsi hB
set_option maxHeartbeats 8000000 in
set_option maxRecDepth 100000 in
theorem awake11 (w : World) (hG : Glb w) : Calls Tryd.prog 7 #[] w fun e w' => e = .returned (.bool true) ∧ Below w.heap.size w w' := by
  have E := Lib.hid (((Kn.start w).arg_glb hG).arg_cells hG.dis)
  have hJ := Lib.hid (fun u (hu : Glb u) => show Calls Tryd.prog 14 #[.agg #[.int .i64 63, .int .i64 0, .int .i64 10], .agg #[.int .i64 0, .int .i64 127, .int .i64 10], .agg #[.int .i64 63, .int .i64 0, .int .i64 10]] u (Laid u awB 0) from lay2_ok [63, 0, 10] [0, 127, 10] [63, 0, 10] rfl rfl rfl aw_okZ u hu)
  have hD := Lib.hid (fun A c u hu hg => decode_ok2 A c false awB u hu hg)
  have hE := Lib.hid (fun A c u hu hg => decode_ok2 A c false awC u hu hg)
  have hK := Lib.hid (fun A c u hu hg => show Calls Tryd.prog 10 #[.slice A 8 c, .bool true] u (fun e w' => e = .returned (.int .i64 3) ∧ Below u.heap.size u w') from by
    have h := kind_ok A c true awB u hu hg
    rw [awB_kind] at h
    exact h)
  have hH := Lib.hid (fun A c u hu hg => show Calls Tryd.prog 10 #[.slice A 8 c, .bool false] u (fun e w' => e = .returned (.int .i64 2) ∧ Below u.heap.size u w') from by
    have h := kind_ok A c false awC u hu hg
    rw [awC_kind] at h
    exact h)
  have hS := Lib.hid (fun u hu => show Calls Tryd.prog 12 #[.int .i64 7] u (fun e w' => e = .returned (.int .i64 64) ∧ u = w') from by
    have h := distance_any 7 u hu
    rw [aw_dist] at h
    exact h)
  have hjl := Lib.hid awB_length
  have hcl := Lib.hid awC_lt
  have hl1 := Lib.hid (deR_length false awB)
  have hl2 := Lib.hid (deR_length false awC)
  have hzz := Lib.hid (show (i64s z64).length = 64 from rfl)
  have hp := aw_plane
  rw [← awB_tex] at hp
  have e0 := Lib.hid hp.1
  have e1 := Lib.hid hp.2.1
  have e4 := Lib.hid hp.2.2
  have e3 := Lib.hid awC_tex
  clear hp
  have hsz : (Tryd.prog.info? 5).map (·.size) = some 1 := by kernel_rfl
  have hzr : ((Tryd.prog.info? 5).bind (·.zero)).isSome = true := by kernel_rfl
  have q0 : ∀ u, (Op.equalIn 10000 25 (arr [255, 0, 40, 255]) (.agg #[.int .i64 255, .int .i64 0, .int .i64 40, .int .i64 255])).run Tryd.prog u = .ok true u := fun u => eq_texel [255, 0, 40, 255] [255, 0, 40, 255] rfl rfl u
  have q1 : ∀ u, (Op.equalIn 10000 25 (arr [191, 64, 40, 255]) (.agg #[.int .i64 191, .int .i64 64, .int .i64 40, .int .i64 255])).run Tryd.prog u = .ok true u := fun u => eq_texel [191, 64, 40, 255] [191, 64, 40, 255] rfl rfl u
  have p0 : ∀ u, (Op.equalIn 10000 25 (.agg #[.int .i64 255, .int .i64 0, .int .i64 40, .int .i64 255]) (.agg #[.int .i64 255, .int .i64 0, .int .i64 40, .int .i64 255])).run Tryd.prog u = .ok true u := q0
  have p1 : ∀ u, (Op.equalIn 10000 25 (.agg #[.int .i64 191, .int .i64 64, .int .i64 40, .int .i64 255]) (.agg #[.int .i64 191, .int .i64 64, .int .i64 40, .int .i64 255])).run Tryd.prog u = .ok true u := q1
  have q2 : ∀ u, (Op.equalIn 10000 25 (arr [255, 0, 40, 255]) (arr [255, 0, 40, 255])).run Tryd.prog u = .ok true u := fun u => eq_texel [255, 0, 40, 255] [255, 0, 40, 255] rfl rfl u
  generalize awB = JB at *
  generalize deR false JB = LF at *
  generalize deR false awC = LT at *
  go_enter Tryd.func7, Tryd.ntmps7
  go_wp2_with (first
    | (go_at_call 14; (with_reducible refine (hJ.out _ ?ha).mono ?_); (case ha => exact E.out.get (by simp)); clear hJ; rintro e w1 ⟨A1, n1, c1, rfl, hB1, hn1, hc1, hb⟩; obtain rfl : n1 = 8 := hB1.1.symm.trans hjl.out; have E1 := Lib.hid (E.out.later hb); clear hb E; have E := E1; clear E1; have E1 := Lib.hid (E.out.new_bsi hB1); clear E hB1; have E := E1; clear E1)
    | (go_at_call 8; (with_reducible refine (hD.out _ _ _ ?ha ?hb).mono ?_); (case ha => exact E.out.bs (by simp)); (case hb => exact E.out.get (by simp)); clear hD; rintro e w2 ⟨rfl, hb⟩; have E1 := Lib.hid (E.out.later hb); clear hb E; have E := E1; clear E1)
    | (go_at_call 8; (with_reducible refine (hE.out _ _ _ ?ha ?hb).mono ?_); (case ha => exact E.out.bs (by simp)); (case hb => exact E.out.get (by simp)); clear hE; rintro e w2 ⟨rfl, hb⟩; have E1 := Lib.hid (E.out.later hb); clear hb E; have E := E1; clear E1)
    | (go_at_call 10; (with_reducible refine (hK.out _ _ _ ?ha ?hb).mono ?_); (case ha => exact E.out.bs (by simp)); (case hb => exact E.out.get (by simp)); clear hK; rintro e w2 ⟨rfl, hb⟩; have E1 := Lib.hid (E.out.later hb); clear hb E; have E := E1; clear E1)
    | (go_at_call 10; have E2 := Lib.hid (E.out.new_bytes 5 awC hcl.out 8 rfl); (refine (hH.out _ _ _ ?ha ?hb).mono ?_); (case ha => exact E2.out.bs (by simp)); (case hb => exact E2.out.get (by simp)); clear hH E; have E := E2; clear E2; rintro e w2 ⟨rfl, hb⟩; have E1 := Lib.hid (E.out.later hb); clear hb E; have E := E1; clear E1)
    | (go_at_call 12; (with_reducible refine (hS.out _ ?ha).mono ?_); (case ha => exact E.out.get (by simp)); clear hS; rintro e w2 ⟨rfl, rfl⟩)
    | ((with_reducible refine kn_buildb E.out rfl rfl awC Tryd.underlying22 hsz hzr ?_ ?_ ?_ ?_ ?_); (focus (rfl)); (focus (omega)); (focus (omega)); (focus (rfl)); clear E; intro gg u E0; have hB := E0.row_bs (g := gg) hcl.out 8 rfl; have E := Lib.hid ((E0.rest gg).new_bsi hB); clear E0 hB)
    | ((with_reducible refine kn_stores (g := g3) (vs := i64s LF) E.out rfl rfl rfl rfl rfl ?hl ?h1 ?_); (case hl => exact ⟨hzz.out, by rw [i64s_length]; exact hl1.out⟩); (case h1 => exact i64s_one _); clear E; intro u E0; have E := Lib.hid E0; clear E0)
    | ((with_reducible refine kn_stores (g := g5) (vs := i64s LT) E.out rfl rfl rfl rfl rfl ?hl ?h1 ?_); (case hl => exact ⟨hzz.out, by rw [i64s_length]; exact hl2.out⟩); (case h1 => exact i64s_one _); clear E; intro u E0; have E := Lib.hid E0; clear E0)
    | ((with_reducible refine kn_loadp_if (g := g3) (off := 0) E.out rfl rfl rfl ?hl ?_); (case hl => have := hl1.out; omega); rw [e0.out])
    | ((with_reducible refine kn_loadp_if (g := g3) (off := 4) E.out rfl rfl rfl ?hl ?_); (case hl => have := hl1.out; omega); rw [e1.out])
    | ((with_reducible refine kn_loadp_if (g := g3) (off := 16) E.out rfl rfl rfl ?hl ?_); (case hl => have := hl1.out; omega); rw [e4.out])
    | ((with_reducible refine kn_loadi_if (g := g5) (i := 3) E.out rfl rfl rfl ?hl ?_); (case hl => have := hl2.out; omega); rw [e3.out])
    | ((with_reducible refine kn_load E.out rfl rfl rfl rfl ?_)) | ((with_reducible refine kn_load_if E.out rfl rfl rfl rfl ?_)) | ((with_reducible refine kn_loads E.out rfl rfl rfl ?_ ?_); (focus (first | rfl | (simp only [i64s_length, u8s_length]; first | rfl | assumption | omega)))) | ((with_reducible refine kn_loads_if E.out rfl rfl rfl ?_ ?_); (focus (first | rfl | (simp only [i64s_length, u8s_length]; first | rfl | assumption | omega)))) | ((with_reducible refine kn_stores E.out rfl rfl rfl rfl rfl ?_ ?_ ?_); (focus (first | exact ⟨rfl, rfl⟩ | (simp only [i64s_length, u8s_length]; refine ⟨?_, ?_⟩ <;> first | rfl | assumption | omega))); (focus (first | exact i64s_one _ | exact u8s_one _ | simp [Value.oneCell'])); clear E; intro u E0; have E := Lib.hid E0; clear E0) | ((with_reducible refine kn_alloc (o := ⟨some 3, _, _, _, _, _⟩) E.out rfl rfl ?_); clear E; intro g3 u E0 hb0; have E := Lib.hid E0; clear E0 hb0) | ((with_reducible refine kn_box (o := ⟨some 3, _, _, _, _, _⟩) E.out rfl rfl rfl ?_); clear E; intro g3 u E0 hb0; have E := Lib.hid E0; clear E0 hb0) | ((with_reducible refine kn_box_int (o := ⟨some 3, _, _, _, _, _⟩) E.out rfl rfl rfl ?_); clear E; intro g3 u E0 hb0; have E := Lib.hid E0; clear E0 hb0) | ((with_reducible refine kn_box_slice (o := ⟨some 3, _, _, _, _, _⟩) E.out rfl rfl rfl ?_); clear E; intro g3 u E0 hb0; have E := Lib.hid E0; clear E0 hb0) | ((with_reducible refine kn_box_bool (o := ⟨some 3, _, _, _, _, _⟩) E.out rfl rfl rfl ?_); clear E; intro g3 u E0 hb0; have E := Lib.hid E0; clear E0 hb0) | ((with_reducible refine kn_box_func (o := ⟨some 3, _, _, _, _, _⟩) E.out rfl rfl rfl ?_); clear E; intro g3 u E0 hb0; have E := Lib.hid E0; clear E0 hb0) | ((with_reducible refine kn_alloc (o := ⟨some 5, _, _, _, _, _⟩) E.out rfl rfl ?_); clear E; intro g5 u E0 hb0; have E := Lib.hid E0; clear E0 hb0) | ((with_reducible refine kn_box (o := ⟨some 5, _, _, _, _, _⟩) E.out rfl rfl rfl ?_); clear E; intro g5 u E0 hb0; have E := Lib.hid E0; clear E0 hb0) | ((with_reducible refine kn_box_int (o := ⟨some 5, _, _, _, _, _⟩) E.out rfl rfl rfl ?_); clear E; intro g5 u E0 hb0; have E := Lib.hid E0; clear E0 hb0) | ((with_reducible refine kn_box_slice (o := ⟨some 5, _, _, _, _, _⟩) E.out rfl rfl rfl ?_); clear E; intro g5 u E0 hb0; have E := Lib.hid E0; clear E0 hb0) | ((with_reducible refine kn_box_bool (o := ⟨some 5, _, _, _, _, _⟩) E.out rfl rfl rfl ?_); clear E; intro g5 u E0 hb0; have E := Lib.hid E0; clear E0 hb0) | ((with_reducible refine kn_box_func (o := ⟨some 5, _, _, _, _, _⟩) E.out rfl rfl rfl ?_); clear E; intro g5 u E0 hb0; have E := Lib.hid E0; clear E0 hb0))
  go_ret
  exact ⟨rfl, E.out.bel⟩
end Go.Proofs.YtgcijioiicmjiaaDoor
