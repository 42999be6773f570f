/- What the laws of layer 5 ask first: a row of three. -/
import Derived.Test.YtbpdaijmclcbdaaMpChain
namespace Go.Proofs.Ytbpdaijmclcbdaa
open Go.RowKit
open Im Mp

/-- A slice literal of bytes. -/
theorem kn_buildb {w u : World} {R : List Res} {F : List (World → Prop)} {ops : Array Oper} {rest : List Oper} {o : Oper} {a : Act} {Q : Exit → Act → World → Prop} (E : Kn w R F u) (hgd : o.guard = none) {t e : TypeId} {len : Nat} {parts : Array (Nat × Operand)} (ho : o.op = .buildSlice t len parts) (xs : List Nat)
    (hu : Try.prog.underlying t = some (.slice e)) (hsz : (Try.prog.info? e).map (·.size) = some 1) (hz : ((Try.prog.info? e).bind (·.zero)).isSome = true) (hlen : len = xs.length) (hpos : 0 < len) (hsmall : len ≤ 2 ^ 24)
    (hparts : parts.toList = (((xs.map fun (x : Nat) => (x : Int))).zipIdx 0).map fun x => (x.2, Operand.const (Value.int .u8 x.1)))
    (h : ∀ g u', Kn w (.row g e (u8s xs) :: R) F u' → wpList Try.prog ops Q rest (a.put o.dst (.slice (some ⟨g, 0, none⟩) len len)) u') : wpList Try.prog ops Q (o :: rest) a u := by
  refine wpList_buildFlat hgd t e len parts ho .u8 (xs.map fun (x : Nat) => (x : Int)) hu hsz hz (by simpa using hlen) hpos hsmall hparts ?_
  have e1 : (xs.map fun (x : Nat) => (x : Int)).map (Value.int .u8) = u8s xs := by simp [u8s]
  rw [e1]
  exact h _ _ (E.new e (u8s xs))
/-- An image whose bytes are a block that is known. -/
theorem Kn.row_img {w u : World} {R : List Res} {F : List (World → Prop)} (E : Kn w R F u) {g : Nat} {t : TypeId} {xs : List Nat} [S : HasRowF F g t (u8s xs)] (hx : ∀ x ∈ xs, x < 256) (hn : xs.length ≤ 67108864) (W H : Int) (n c : Nat) (hl : xs.length = n) : Kn w R (imgF (Go.Proofs.Ytbpdaijmclcbdaa.img W H (some ⟨g, 0, none⟩) n c) W H xs :: F) u :=
  E.fact fun u' hk => by
    have hr : Row u' g t (u8s xs) := E.facts _ S.h u' hk
    exact ⟨_, n, c, rfl, by omega, hl, hx, fun _ => ⟨g, 0, rfl, hr.lt, fun i hi => by rw [Nat.zero_add]; exact hr.cell i _ (u8s_getElem? xs i (by omega))⟩⟩

def aw3 : List Nat := [10, 0, 0, 0, 21, 0, 0, 4, 99, 0, 0, 0]
def aw4 : List Nat := [1, 2, 3, 4]
theorem aw_half : hf 3 1 aw3 = [16, 0, 0, 2] := by decide
theorem aw_hv : hv 3 = 1 ∧ hv 1 = 1 := by decide
theorem aw_right : rightP 3 1 aw3.length := by decide
theorem aw_right4 : rightP 1 1 4 := by decide
theorem aw_lv : lvV 1 1 = 1 ∧ lvV 5 2 = 3 := by decide
theorem aw_sd : sdV 5 1 = 2 := by decide

set_option maxHeartbeats 4000000 in
theorem mawake_any (w : World) : Calls Try.prog 22 #[] w fun e w' => e = .returned (.bool true) ∧ Below w.heap.size w w' := by
  have E := Lib.hid (Kn.start w)
  have h1 := Lib.hid (fun (u : World) (v : Value) (h : Img u v 3 1 aw3) => mhalf_any v 3 1 aw3 u h)
  simp only [show ∀ z, putW (rightP 3 1 aw3.length) z = z from fun z => if_pos aw_right, show ∀ z, putX (rightP 3 1 aw3.length) z = z from fun z => if_pos aw_right, show noE (rightP 3 1 aw3.length) = 0 from if_pos aw_right, aw_half, aw_hv.1, aw_hv.2] at h1
  have h2 := Lib.hid (fun (u : World) (b off c : Nat) (h : Bs u u.heap.size (some ⟨b, off, none⟩) 4 aw4) => chain_ok 1 1 b off 4 c aw4 1 u ⟨aw_right4, by omega, by rw [aw_lv.1]; omega⟩ h)
  have h3 := Lib.hid (fun u => levels_any 5 2 u (by omega) (by omega))
  have h4 := Lib.hid (fun u => side_any 5 1 u (by omega) (by omega))
  rw [aw_lv.2] at h3
  rw [aw_sd] at h4
  have hsu : (Try.prog.info? 5).map (·.size) = some 1 := by kernel_rfl
  have hzu : ((Try.prog.info? 5).bind (·.zero)).isSome = true := by kernel_rfl
  have hx3 : ∀ x ∈ aw3, x < 256 := by decide
  have hx4 : ∀ x ∈ aw4, x < 256 := by decide
  have hl1 := chL_length 1 1 aw4 1
  have hb3 : ∀ (g : Nat) (u : World), (Instr.build 24 #[(0, .int .i64 3), (1, .int .i64 1), (2, .slice (some ⟨g, 0, none⟩) 12 12)]).run Try.prog u = .ok (.agg (imL 3 1 (some ⟨g, 0, none⟩) 12 12).toArray) u := fun g u => run_build u _ _ _ (by kernel_rfl)
  have hb4 : ∀ (g : Nat) (u : World), (Instr.build 24 #[(0, .int .i64 1), (1, .int .i64 1), (2, .slice (some ⟨g, 0, none⟩) 4 4)]).run Try.prog u = .ok (.agg (imL 1 1 (some ⟨g, 0, none⟩) 4 4).toArray) u := fun g u => run_build u _ _ _ (by kernel_rfl)
  go_enter Try.func22, Try.ntmps22
  go_upto_region 3 with (first
    | ((with_reducible refine kn_buildb E.out rfl rfl aw3 Try.underlying22 hsu hzu ?_ ?_ ?_ ?_ ?_); (focus (rfl)); (focus (omega)); (focus (omega)); (focus (rfl)); clear E; intro g6 u E0; have E := Lib.hid (E0.rest1.row_img (g := g6) (xs := aw3) hx3 (by decide) 3 1 12 12 rfl); clear E0)
    | ((with_reducible refine kn_buildb E.out rfl rfl aw4 Try.underlying22 hsu hzu ?_ ?_ ?_ ?_ ?_); (focus (rfl)); (focus (omega)); (focus (omega)); (focus (rfl)); clear E; intro g12 u E0; have E := Lib.hid (E0.rest1.row_img (g := g12) (xs := aw4) hx4 (by decide) 1 1 4 4 rfl); clear E0)
    | (go_at_call 23; refine (h1.out _ _ E.out.img).mono ?_; rintro e w1 ⟨v1, rfl, hI, hb⟩; obtain ⟨A1, n1, c1, rfl, hn1, hB1, _⟩ := hI; have E1 := Lib.hid ((E.out.later hb).new_img (show Img w1 (img 1 1 A1 n1 c1) 1 1 [16, 0, 0, 2] from ⟨A1, n1, c1, rfl, hn1, hB1⟩)); obtain rfl : 4 = n1 := hB1.1; clear hb hn1 hB1 E; have E := E1; clear E1)
    | (go_at_call 25; refine (h2.out _ _ _ _ (Img.bs (E.out.img (v := img 1 1 (some ⟨g12, 0, none⟩) 4 4)))).mono ?_; rintro e w2 ⟨v2, rfl, hI, hb⟩; obtain ⟨A2, c2, vs, rfl, _, _⟩ := hI; have E1 := Lib.hid (E.out.later hb); clear hb E; have E := E1; clear E1)
    | ((with_reducible refine kn_load E.out rfl rfl rfl rfl ?_)) | ((with_reducible refine kn_load_if E.out rfl rfl rfl rfl ?_)) | ((with_reducible refine kn_loads E.out rfl rfl rfl ?_ ?_); (focus (first | rfl | (simp only [i64s_length, u8s_length]; first | rfl | assumption | omega)))) | ((with_reducible refine kn_loads_if E.out rfl rfl rfl ?_ ?_); (focus (first | rfl | (simp only [i64s_length, u8s_length]; first | rfl | assumption | omega)))) | ((with_reducible refine kn_store1_int E.out rfl rfl rfl rfl rfl ?_); clear E; intro u E0; have E := Lib.hid (Kn.rest1 E0); clear E0) | ((with_reducible refine kn_store1_slice E.out rfl rfl rfl rfl rfl ?_); clear E; intro u E0; have E := Lib.hid (Kn.rest1 E0); clear E0) | ((with_reducible refine kn_store1_bool E.out rfl rfl rfl rfl rfl ?_); clear E; intro u E0; have E := Lib.hid (Kn.rest1 E0); clear E0) | ((with_reducible refine kn_stores E.out rfl rfl rfl rfl rfl ?_ ?_ ?_); (focus (first | exact ⟨rfl, rfl⟩ | (simp only [i64s_length, u8s_length]; refine ⟨?_, ?_⟩ <;> first | rfl | assumption | omega))); (focus (first | exact i64s_one _ | exact u8s_one _ | simp [Value.oneCell'])); clear E; intro u E0; have E := Lib.hid (Kn.rest1 E0); clear E0) | ((with_reducible refine kn_alloc (o := ⟨some 1, _, _, _, _, _⟩) E.out rfl rfl ?_); clear E; intro g1 u E0 hb0; have E := Lib.hid E0; clear E0 hb0) | ((with_reducible refine kn_box (o := ⟨some 1, _, _, _, _, _⟩) E.out rfl rfl rfl ?_); clear E; intro g1 u E0 hb0; have E := Lib.hid E0; clear E0 hb0) | ((with_reducible refine kn_box_int (o := ⟨some 1, _, _, _, _, _⟩) E.out rfl rfl rfl ?_); clear E; intro g1 u E0 hb0; have E := Lib.hid E0; clear E0 hb0) | ((with_reducible refine kn_box_slice (o := ⟨some 1, _, _, _, _, _⟩) E.out rfl rfl rfl ?_); clear E; intro g1 u E0 hb0; have E := Lib.hid E0; clear E0 hb0) | ((with_reducible refine kn_box_bool (o := ⟨some 1, _, _, _, _, _⟩) E.out rfl rfl rfl ?_); clear E; intro g1 u E0 hb0; have E := Lib.hid E0; clear E0 hb0) | ((with_reducible refine kn_box_func (o := ⟨some 1, _, _, _, _, _⟩) E.out rfl rfl rfl ?_); clear E; intro g1 u E0 hb0; have E := Lib.hid E0; clear E0 hb0) | ((with_reducible refine kn_alloc E.out rfl rfl ?_); clear E; intro g u E0 hb0; have E := Lib.hid E0; clear E0 hb0) | ((with_reducible refine kn_box E.out rfl rfl rfl ?_); clear E; intro g u E0 hb0; have E := Lib.hid E0; clear E0 hb0) | ((with_reducible refine kn_box_int E.out rfl rfl rfl ?_); clear E; intro g u E0 hb0; have E := Lib.hid E0; clear E0 hb0) | ((with_reducible refine kn_box_slice E.out rfl rfl rfl ?_); clear E; intro g u E0 hb0; have E := Lib.hid E0; clear E0 hb0) | ((with_reducible refine kn_box_bool E.out rfl rfl rfl ?_); clear E; intro g u E0 hb0; have E := Lib.hid E0; clear E0 hb0) | ((with_reducible refine kn_box_func E.out rfl rfl rfl ?_); clear E; intro g u E0 hb0; have E := Lib.hid E0; clear E0 hb0))
  have hBs := Img.bs (E.out.img (v := img 1 1 A1 4 c1))
  obtain ⟨b, off, rfl, _, hcc⟩ := hBs.2.2 (by omega)
  have k0 := hcc 0 (by omega)
  have k3 := hcc 3 (by omega)
  rw [Nat.add_zero] at k0
  simp only [List.getD_cons_zero, List.getD_cons_succ] at k0 k3
  clear hcc hBs
  go_wp2_with (first
    | (go_at_call 27; refine (h3.out _).mono ?_; rintro e w3 ⟨rfl, hb⟩; have E1 := Lib.hid (E.out.later hb); clear hb E; have E := E1; clear E1)
    | (go_at_call 29; refine (h4.out _).mono ?_; rintro e w4 ⟨rfl, hb⟩; have E1 := Lib.hid (E.out.later hb); clear hb E; have E := E1; clear E1)
    | ((with_reducible refine kn_load E.out rfl rfl rfl rfl ?_)) | ((with_reducible refine kn_load_if E.out rfl rfl rfl rfl ?_)) | ((with_reducible refine kn_loads E.out rfl rfl rfl ?_ ?_); (focus (first | rfl | (simp only [i64s_length, u8s_length]; first | rfl | assumption | omega)))) | ((with_reducible refine kn_loads_if E.out rfl rfl rfl ?_ ?_); (focus (first | rfl | (simp only [i64s_length, u8s_length]; first | rfl | assumption | omega)))) | ((with_reducible refine kn_store1_int E.out rfl rfl rfl rfl rfl ?_); clear E; intro u E0; have E := Lib.hid (Kn.rest1 E0); clear E0) | ((with_reducible refine kn_store1_slice E.out rfl rfl rfl rfl rfl ?_); clear E; intro u E0; have E := Lib.hid (Kn.rest1 E0); clear E0) | ((with_reducible refine kn_store1_bool E.out rfl rfl rfl rfl rfl ?_); clear E; intro u E0; have E := Lib.hid (Kn.rest1 E0); clear E0) | ((with_reducible refine kn_stores E.out rfl rfl rfl rfl rfl ?_ ?_ ?_); (focus (first | exact ⟨rfl, rfl⟩ | (simp only [i64s_length, u8s_length]; refine ⟨?_, ?_⟩ <;> first | rfl | assumption | omega))); (focus (first | exact i64s_one _ | exact u8s_one _ | simp [Value.oneCell'])); clear E; intro u E0; have E := Lib.hid (Kn.rest1 E0); clear E0) | ((with_reducible refine kn_alloc E.out rfl rfl ?_); clear E; intro g u E0 hb0; have E := Lib.hid E0; clear E0 hb0) | ((with_reducible refine kn_box E.out rfl rfl rfl ?_); clear E; intro g u E0 hb0; have E := Lib.hid E0; clear E0 hb0) | ((with_reducible refine kn_box_int E.out rfl rfl rfl ?_); clear E; intro g u E0 hb0; have E := Lib.hid E0; clear E0 hb0) | ((with_reducible refine kn_box_slice E.out rfl rfl rfl ?_); clear E; intro g u E0 hb0; have E := Lib.hid E0; clear E0 hb0) | ((with_reducible refine kn_box_bool E.out rfl rfl rfl ?_); clear E; intro g u E0 hb0; have E := Lib.hid E0; clear E0 hb0) | ((with_reducible refine kn_box_func E.out rfl rfl rfl ?_); clear E; intro g u E0 hb0; have E := Lib.hid E0; clear E0 hb0))
  go_ret
  exact ⟨rfl, E.out.bel⟩
end Go.Proofs.Ytbpdaijmclcbdaa
