/- A part's anchor: what package bctable answers by its table, and the document by its own. -/
import Derived.Test.YtnoailihkjccbaaDoorBtPart
import Derived.Test.YtnoailihkjccbaaDoorBtModes
set_option linter.all false
namespace Go.Proofs.YtnoailihkjccbaaDoor
open Go.RowKit
open Bt

namespace Bt
/-- A row of the anchors' table. -/
def anR (p q : Int) (xs : List Nat) : List Value := .int .i64 p :: .int .i64 q :: u8s xs
def anchV : List Value := anR 2 1 an21 ++ anR 3 1 an31 ++ anR 3 2 an32
def anchorV (parts way part : Int) : Int :=
  if 0 ≤ way ∧ way < 64 then (if parts = 2 ∧ part = 1 then ((an21.getD way.toNat 0 : Nat) : Int) else if parts = 3 ∧ part = 1 then ((an31.getD way.toNat 0 : Nat) : Int) else if parts = 3 ∧ part = 2 then ((an32.getD way.toNat 0 : Nat) : Int) else 0) else 0
theorem an21_lt : ∀ k, k < 64 → an21.getD k 0 < 16 := by decide +kernel
theorem an31_lt : ∀ k, k < 64 → an31.getD k 0 < 16 := by decide +kernel
theorem an32_lt : ∀ k, k < 64 → an32.getD k 0 < 16 := by decide +kernel
end Bt
instance : Aggr 106 2 := ⟨⟨_, Tryd.underlying106, rfl⟩, by kernel_rfl⟩
instance : ZeroV 106 (i64s [0, 0]) := .of (by kernel_rfl)
instance : Aggr 108 66 := ⟨⟨_, Tryd.underlying108, rfl⟩, by kernel_rfl⟩
instance : ZeroV 108 (anR 0 0 (List.replicate 64 0)) := .of (by kernel_rfl)
instance : Aggr 109 198 := ⟨⟨_, Tryd.underlying109, rfl⟩, by kernel_rfl⟩

theorem eq_subset (x0 x1 y0 y1 : Int) (w : World) :
    (Op.equalIn 10000 106 (.agg #[.int .i64 x0, .int .i64 x1]) (.agg #[.int .i64 y0, .int .i64 y1])).run Tryd.prog w = .ok (x0 == y0 && x1 == y1) w := by
  have hf : Tryd.prog.underlying 106 = some (.struct (Tryd.prog.fieldsOf 106)) := by kernel_rfl
  have hs : Tryd.prog.stoodInHeld 106 = false := by kernel_rfl
  have hg : (Tryd.prog.fieldsOf 106).toList.map (fun f => (decide (f.name ≠ "_"), f.type, f.offset)) = [(true, 3, 0), (true, 3, 1)] := by kernel_rfl
  rw [run_equalIn_struct w 9999 _ _ _ hf hs, eqFields_eqF, hg, eqF_int 9998 _ w (show (#[.int .i64 x0, .int .i64 x1] : Array Value)[0]? = some (.int .i64 x0) from rfl) (show (#[.int .i64 y0, .int .i64 y1] : Array Value)[0]? = some (.int .i64 y0) from rfl),
    eqF_int 9998 _ w (show (#[.int .i64 x0, .int .i64 x1] : Array Value)[1]? = some (.int .i64 x1) from rfl) (show (#[.int .i64 y0, .int .i64 y1] : Array Value)[1]? = some (.int .i64 y1) from rfl)]
  simp only [eqF, Sem.run_pure, ite_ok, Bool.and_assoc, Bool.and_true]
theorem anchV_length : anchV.length = 198 := by decide +kernel
theorem index_an0 (u : World) : (Instr.index 109 (.agg anchV.toArray) (.int .i64 0)).run Tryd.prog u = .ok (.agg (anR 2 1 an21).toArray) u := by kernel_rfl
theorem index_an1 (u : World) : (Instr.index 109 (.agg anchV.toArray) (.int .i64 1)).run Tryd.prog u = .ok (.agg (anR 3 1 an31).toArray) u := by kernel_rfl
theorem index_an2 (u : World) : (Instr.index 109 (.agg anchV.toArray) (.int .i64 2)).run Tryd.prog u = .ok (.agg (anR 3 2 an32).toArray) u := by kernel_rfl

set_option maxHeartbeats 1000000 in
theorem anchor_way (parts way part : Int) (w : World) (h : ¬ (0 ≤ way ∧ way < 64)) : Calls Tryd.prog 69 #[.int .i64 parts, .int .i64 way, .int .i64 part] w fun e w' => e = .returned (.int .i64 0) ∧ Below w.heap.size w w' := by
  have E := Lib.hid (Kn.start w)
  have hB := Lib.hid (fun u => below_no way 64 u h)
  clear h
  go_enter Tryd.func69, Tryd.ntmps69
  go_wp2_with (first
    | (go_at_call 70; refine (hB.out _).mono ?_; clear hB; rintro e w1 ⟨rfl, hb⟩; have E1 := Lib.hid (E.out.later hb); clear hb E; have E := E1; clear E1)
    | ((with_reducible refine kn_load E.out rfl rfl rfl rfl ?_)) | ((with_reducible refine kn_load_if E.out rfl rfl rfl rfl ?_)) | ((with_reducible refine kn_loads E.out rfl rfl rfl ?_ ?_); (focus (first | rfl | (simp only [i64s_length, u8s_length]; first | rfl | assumption | omega)))) | ((with_reducible refine kn_loads_if E.out rfl rfl rfl ?_ ?_); (focus (first | rfl | (simp only [i64s_length, u8s_length]; first | rfl | assumption | omega)))) | ((with_reducible refine kn_store1_int E.out rfl rfl rfl rfl rfl ?_); clear E; intro u E0; have E := Lib.hid E0; clear E0) | ((with_reducible refine kn_store1_slice E.out rfl rfl rfl rfl rfl ?_); clear E; intro u E0; have E := Lib.hid E0; clear E0) | ((with_reducible refine kn_store1_bool E.out rfl rfl rfl rfl rfl ?_); clear E; intro u E0; have E := Lib.hid E0; clear E0) | ((with_reducible refine kn_stores E.out rfl rfl rfl rfl rfl ?_ ?_ ?_); (focus (first | exact ⟨rfl, rfl⟩ | (simp only [i64s_length, u8s_length]; refine ⟨?_, ?_⟩ <;> first | rfl | assumption | omega))); (focus (first | exact i64s_one _ | exact u8s_one _ | simp [Value.oneCell'])); clear E; intro u E0; have E := Lib.hid E0; clear E0) | ((with_reducible refine kn_alloc E.out rfl rfl ?_); clear E; intro g u E0 hb0; have E := Lib.hid E0; clear E0 hb0) | ((with_reducible refine kn_box E.out rfl rfl rfl ?_); clear E; intro g u E0 hb0; have E := Lib.hid E0; clear E0 hb0) | ((with_reducible refine kn_box_int E.out rfl rfl rfl ?_); clear E; intro g u E0 hb0; have E := Lib.hid E0; clear E0 hb0) | ((with_reducible refine kn_box_slice E.out rfl rfl rfl ?_); clear E; intro g u E0 hb0; have E := Lib.hid E0; clear E0 hb0) | ((with_reducible refine kn_box_bool E.out rfl rfl rfl ?_); clear E; intro g u E0 hb0; have E := Lib.hid E0; clear E0 hb0) | ((with_reducible refine kn_box_func E.out rfl rfl rfl ?_); clear E; intro g u E0 hb0; have E := Lib.hid E0; clear E0 hb0))
  go_ret
  exact ⟨rfl, E.out.bel⟩

/-- A row of the table as it is compared and read: its two numbers, its texels. -/
theorem anR_head (p q : Int) (xs : List Nat) : ((anR p q xs).drop 0).take 2 = [.int .i64 p, .int .i64 q] := rfl
theorem anR_get (p q : Int) (xs : List Nat) (k : Nat) (hk : k < xs.length) : (anR p q xs)[2 + k]? = some (.int .u8 ((xs.getD k 0 : Nat) : Int)) := by
  rw [Nat.add_comm]
  exact u8s_getElem? xs k hk
theorem anR_length (p q : Int) (xs : List Nat) (h : xs.length = 64) : (anR p q xs).length = 66 := by
  unfold anR
  rw [List.length_cons, List.length_cons, u8s_length, h]
theorem anR_one (p q : Int) (xs : List Nat) : ∀ v ∈ anR p q xs, v.oneCell' = true := by
  intro v hv
  unfold anR at hv
  simp only [List.mem_cons] at hv
  rcases hv with rfl | rfl | hv
  · rfl
  · rfl
  · exact u8s_one _ v hv

set_option maxHeartbeats 8000000 in
set_option maxRecDepth 100000 in
theorem anchor_go (parts part : Int) (k : Nat) (hk : k < 64) (w : World)
    (AV : List Value) (X Y Z : List Nat) (h2 : cellsF 2 AV w) (hAV : AV.length = 198) (lX : X.length = 64) (lY : Y.length = 64) (lZ : Z.length = 64)
    (xX : X.getD k 0 < 16) (xY : Y.getD k 0 < 16) (xZ : Z.getD k 0 < 16)
    (hI0 : Hid (∀ u, (Instr.index 109 (.agg AV.toArray) (.int .i64 0)).run Tryd.prog u = .ok (.agg (anR 2 1 X).toArray) u))
    (hI1 : Hid (∀ u, (Instr.index 109 (.agg AV.toArray) (.int .i64 1)).run Tryd.prog u = .ok (.agg (anR 3 1 Y).toArray) u))
    (hI2 : Hid (∀ u, (Instr.index 109 (.agg AV.toArray) (.int .i64 2)).run Tryd.prog u = .ok (.agg (anR 3 2 Z).toArray) u)) :
    Calls Tryd.prog 69 #[.int .i64 parts, .int .i64 (k : Int), .int .i64 part] w fun e w' => e = .returned (.int .i64 (if parts = 2 ∧ part = 1 then ((X.getD k 0 : Nat) : Int) else if parts = 3 ∧ part = 1 then ((Y.getD k 0 : Nat) : Int) else if parts = 3 ∧ part = 2 then ((Z.getD k 0 : Nat) : Int) else 0)) ∧ Below w.heap.size w w' := by
  have E := Lib.hid ((Kn.start w).arg_cells h2)
  have hB := Lib.hid (fun u => below_yes (k : Int) 64 u (by omega) (by omega))
  have nX := Lib.hid (anR_get 2 1 X k (by omega))
  have nY := Lib.hid (anR_get 3 1 Y k (by omega))
  have nZ := Lib.hid (anR_get 3 2 Z k (by omega))
  obtain ⟨G, hG⟩ : ∃ G : Int, G = (if parts = 2 ∧ part = 1 then ((X.getD k 0 : Nat) : Int) else if parts = 3 ∧ part = 1 then ((Y.getD k 0 : Nat) : Int) else if parts = 3 ∧ part = 2 then ((Z.getD k 0 : Nat) : Int) else 0) := ⟨_, rfl⟩
  rw [← hG]
  replace hG := Lib.hid hG
  generalize X.getD k 0 = x at *
  generalize Y.getD k 0 = y at *
  generalize Z.getD k 0 = z at *
  clear h2
  go_enter Tryd.func69, Tryd.ntmps69
  go_wp2_with (first
    | (go_at_call 70; refine (hB.out _).mono ?_; clear hB; rintro e w1 ⟨rfl, hb⟩; have E1 := Lib.hid (E.out.later hb); clear hb E; have E := E1; clear E1)
    | ((with_reducible refine kn_gloads (g := 2) E.out rfl rfl ?hx List.mem_cons_self hAV ?_); (case hx => rfl))
    | ((with_reducible refine kn_load E.out rfl rfl rfl rfl ?_)) | ((with_reducible refine kn_load_if E.out rfl rfl rfl rfl ?_)) | ((with_reducible refine kn_loads E.out rfl rfl rfl ?_ ?_); (focus (first | rfl | (simp only [i64s_length, u8s_length]; first | rfl | assumption | omega)))) | ((with_reducible refine kn_loads_if E.out rfl rfl rfl ?_ ?_); (focus (first | rfl | (simp only [i64s_length, u8s_length]; first | rfl | assumption | omega)))) | ((with_reducible refine kn_store1_int E.out rfl rfl rfl rfl rfl ?_); clear E; intro u E0; have E := Lib.hid E0; clear E0) | ((with_reducible refine kn_store1_slice E.out rfl rfl rfl rfl rfl ?_); clear E; intro u E0; have E := Lib.hid E0; clear E0) | ((with_reducible refine kn_store1_bool E.out rfl rfl rfl rfl rfl ?_); clear E; intro u E0; have E := Lib.hid E0; clear E0) | ((with_reducible refine kn_stores E.out rfl rfl rfl rfl rfl ?_ ?_ ?_); (focus (first | exact ⟨rfl, rfl⟩ | (simp only [i64s_length, u8s_length]; refine ⟨?_, ?_⟩ <;> first | rfl | assumption | omega))); (focus (first | exact i64s_one _ | exact u8s_one _ | simp [Value.oneCell'])); clear E; intro u E0; have E := Lib.hid E0; clear E0) | ((with_reducible refine kn_alloc (o := ⟨some 7, _, _, _, _, _⟩) E.out rfl rfl ?_); clear E; intro g7 u E0 hb0; have E := Lib.hid E0; clear E0 hb0) | ((with_reducible refine kn_box (o := ⟨some 7, _, _, _, _, _⟩) E.out rfl rfl rfl ?_); clear E; intro g7 u E0 hb0; have E := Lib.hid E0; clear E0 hb0) | ((with_reducible refine kn_box_int (o := ⟨some 7, _, _, _, _, _⟩) E.out rfl rfl rfl ?_); clear E; intro g7 u E0 hb0; have E := Lib.hid E0; clear E0 hb0) | ((with_reducible refine kn_box_slice (o := ⟨some 7, _, _, _, _, _⟩) E.out rfl rfl rfl ?_); clear E; intro g7 u E0 hb0; have E := Lib.hid E0; clear E0 hb0) | ((with_reducible refine kn_box_bool (o := ⟨some 7, _, _, _, _, _⟩) E.out rfl rfl rfl ?_); clear E; intro g7 u E0 hb0; have E := Lib.hid E0; clear E0 hb0) | ((with_reducible refine kn_box_func (o := ⟨some 7, _, _, _, _, _⟩) E.out rfl rfl rfl ?_); clear E; intro g7 u E0 hb0; have E := Lib.hid E0; clear E0 hb0) | ((with_reducible refine kn_alloc E.out rfl rfl ?_); clear E; intro g u E0 hb0; have E := Lib.hid E0; clear E0 hb0) | ((with_reducible refine kn_box E.out rfl rfl rfl ?_); clear E; intro g u E0 hb0; have E := Lib.hid E0; clear E0 hb0) | ((with_reducible refine kn_box_int E.out rfl rfl rfl ?_); clear E; intro g u E0 hb0; have E := Lib.hid E0; clear E0 hb0) | ((with_reducible refine kn_box_slice E.out rfl rfl rfl ?_); clear E; intro g u E0 hb0; have E := Lib.hid E0; clear E0 hb0) | ((with_reducible refine kn_box_bool E.out rfl rfl rfl ?_); clear E; intro g u E0 hb0; have E := Lib.hid E0; clear E0 hb0) | ((with_reducible refine kn_box_func E.out rfl rfl rfl ?_); clear E; intro g u E0 hb0; have E := Lib.hid E0; clear E0 hb0))
  go_loopw [17] (fun i wr => ∃ q : Nat, q ≤ 3 ∧ i = .int .i64 q ∧ Hid ((0 < q → ¬ (parts = 2 ∧ part = 1)) ∧ (1 < q → ¬ (parts = 3 ∧ part = 1)) ∧ (2 < q → ¬ (parts = 3 ∧ part = 2))) ∧ Hid (Kn w [.row g7 106 [.int .i64 parts, .int .i64 part]] [] wr)) (fun i _ => 3 - (intOf i).toNat)
  case atStart => exact ⟨0, by omega, rfl, Lib.hid ⟨fun h => absurd h (by omega), fun h => absurd h (by omega), fun h => absurd h (by omega)⟩, E.out.part _ _ (by repeat (first | exact List.Sublist.refl _ | apply List.Sublist.cons_cons | apply List.Sublist.cons)) (by simp)⟩
  case round =>
    clear E
    obtain ⟨q, hq, rfl, hP, E⟩ := hrel
    obtain rfl | rfl | rfl | rfl : q = 0 ∨ q = 1 ∨ q = 2 ∨ q = 3 := by omega
    · have hI := hI0.out
      have lQ := lX
      have hN := nX
      clear hI0 hI1 hI2 nX nY nZ
      have hQ := eq_subset 2 1 parts part
      by_cases hc : parts = 2 ∧ part = 1
      · have hG2 := Lib.hid (show G = (x : Int) from by rw [hG.out]; simp [hc.1, hc.2])
        obtain ⟨rfl, rfl⟩ := hc
        have hQ2 : ∀ u, (Op.equalIn 10000 106 (.agg #[.int .i64 2, .int .i64 1]) (.agg #[.int .i64 2, .int .i64 1])).run Tryd.prog u = .ok true u := fun u => by rw [hQ u]; rfl
        clear hQ hP hG
        go_wp2_with (first
          | ((with_reducible refine kn_stores E.out rfl rfl rfl rfl rfl ?hl ?h1 ?_); (case hl => exact ⟨anR_length _ _ _ rfl, anR_length _ _ _ lQ⟩); (case h1 => exact anR_one _ _ _); clear E; intro u E0; have E := Lib.hid E0; clear E0)
          | ((with_reducible refine kn_loadv (g := g9) (off := 0) E.out rfl rfl ?hx (anR_head _ _ _) rfl ?_); (case hx => rfl))
          | ((with_reducible refine kn_load (g := g9) (i := 2 + k) E.out rfl rfl ?hx hN.out ?_); (case hx => rfl))
          | ((with_reducible refine kn_load E.out rfl rfl rfl rfl ?_)) | ((with_reducible refine kn_load_if E.out rfl rfl rfl rfl ?_)) | ((with_reducible refine kn_loads E.out rfl rfl rfl ?_ ?_); (focus (first | rfl | (simp only [i64s_length, u8s_length]; first | rfl | assumption | omega)))) | ((with_reducible refine kn_loads_if E.out rfl rfl rfl ?_ ?_); (focus (first | rfl | (simp only [i64s_length, u8s_length]; first | rfl | assumption | omega)))) | ((with_reducible refine kn_store1_int E.out rfl rfl rfl rfl rfl ?_); clear E; intro u E0; have E := Lib.hid E0; clear E0) | ((with_reducible refine kn_store1_slice E.out rfl rfl rfl rfl rfl ?_); clear E; intro u E0; have E := Lib.hid E0; clear E0) | ((with_reducible refine kn_store1_bool E.out rfl rfl rfl rfl rfl ?_); clear E; intro u E0; have E := Lib.hid E0; clear E0) | ((with_reducible refine kn_stores E.out rfl rfl rfl rfl rfl ?_ ?_ ?_); (focus (first | exact ⟨rfl, rfl⟩ | (simp only [i64s_length, u8s_length]; refine ⟨?_, ?_⟩ <;> first | rfl | assumption | omega))); (focus (first | exact i64s_one _ | exact u8s_one _ | simp [Value.oneCell'])); clear E; intro u E0; have E := Lib.hid E0; clear E0) | ((with_reducible refine kn_alloc (o := ⟨some 9, _, _, _, _, _⟩) E.out rfl rfl ?_); clear E; intro g9 u E0 hb0; have E := Lib.hid E0; clear E0 hb0) | ((with_reducible refine kn_box (o := ⟨some 9, _, _, _, _, _⟩) E.out rfl rfl rfl ?_); clear E; intro g9 u E0 hb0; have E := Lib.hid E0; clear E0 hb0) | ((with_reducible refine kn_box_int (o := ⟨some 9, _, _, _, _, _⟩) E.out rfl rfl rfl ?_); clear E; intro g9 u E0 hb0; have E := Lib.hid E0; clear E0 hb0) | ((with_reducible refine kn_box_slice (o := ⟨some 9, _, _, _, _, _⟩) E.out rfl rfl rfl ?_); clear E; intro g9 u E0 hb0; have E := Lib.hid E0; clear E0 hb0) | ((with_reducible refine kn_box_bool (o := ⟨some 9, _, _, _, _, _⟩) E.out rfl rfl rfl ?_); clear E; intro g9 u E0 hb0; have E := Lib.hid E0; clear E0 hb0) | ((with_reducible refine kn_box_func (o := ⟨some 9, _, _, _, _, _⟩) E.out rfl rfl rfl ?_); clear E; intro g9 u E0 hb0; have E := Lib.hid E0; clear E0 hb0) | ((with_reducible refine kn_alloc E.out rfl rfl ?_); clear E; intro g u E0 hb0; have E := Lib.hid E0; clear E0 hb0) | ((with_reducible refine kn_box E.out rfl rfl rfl ?_); clear E; intro g u E0 hb0; have E := Lib.hid E0; clear E0 hb0) | ((with_reducible refine kn_box_int E.out rfl rfl rfl ?_); clear E; intro g u E0 hb0; have E := Lib.hid E0; clear E0 hb0) | ((with_reducible refine kn_box_slice E.out rfl rfl rfl ?_); clear E; intro g u E0 hb0; have E := Lib.hid E0; clear E0 hb0) | ((with_reducible refine kn_box_bool E.out rfl rfl rfl ?_); clear E; intro g u E0 hb0; have E := Lib.hid E0; clear E0 hb0) | ((with_reducible refine kn_box_func E.out rfl rfl rfl ?_); clear E; intro g u E0 hb0; have E := Lib.hid E0; clear E0 hb0))

        go_ret
        exact ⟨ret_int (by rw [hG2.out]; try exact wrap64_small _ (by omega) (by omega)), E.out.bel⟩
      · have hQ2 : ∀ u, (Op.equalIn 10000 106 (.agg #[.int .i64 2, .int .i64 1]) (.agg #[.int .i64 parts, .int .i64 part])).run Tryd.prog u = .ok false u := fun u => by
          rw [hQ u]
          congr 1
          rw [Bool.and_eq_false_iff, beq_eq_false_iff_ne, beq_eq_false_iff_ne]
          by_cases h1 : 2 = parts
          · exact .inr fun h2 => hc ⟨h1.symm, h2.symm⟩
          · exact .inl h1
        replace hc := Lib.hid hc
        clear hQ
        go_wp2_with (first
          | ((with_reducible refine kn_stores E.out rfl rfl rfl rfl rfl ?hl ?h1 ?_); (case hl => exact ⟨anR_length _ _ _ rfl, anR_length _ _ _ lQ⟩); (case h1 => exact anR_one _ _ _); clear E; intro u E0; have E := Lib.hid E0; clear E0)
          | ((with_reducible refine kn_loadv (g := g9) (off := 0) E.out rfl rfl ?hx (anR_head _ _ _) rfl ?_); (case hx => rfl))
          | ((with_reducible refine kn_load (g := g9) (i := 2 + k) E.out rfl rfl ?hx hN.out ?_); (case hx => rfl))
          | ((with_reducible refine kn_load E.out rfl rfl rfl rfl ?_)) | ((with_reducible refine kn_load_if E.out rfl rfl rfl rfl ?_)) | ((with_reducible refine kn_loads E.out rfl rfl rfl ?_ ?_); (focus (first | rfl | (simp only [i64s_length, u8s_length]; first | rfl | assumption | omega)))) | ((with_reducible refine kn_loads_if E.out rfl rfl rfl ?_ ?_); (focus (first | rfl | (simp only [i64s_length, u8s_length]; first | rfl | assumption | omega)))) | ((with_reducible refine kn_store1_int E.out rfl rfl rfl rfl rfl ?_); clear E; intro u E0; have E := Lib.hid E0; clear E0) | ((with_reducible refine kn_store1_slice E.out rfl rfl rfl rfl rfl ?_); clear E; intro u E0; have E := Lib.hid E0; clear E0) | ((with_reducible refine kn_store1_bool E.out rfl rfl rfl rfl rfl ?_); clear E; intro u E0; have E := Lib.hid E0; clear E0) | ((with_reducible refine kn_stores E.out rfl rfl rfl rfl rfl ?_ ?_ ?_); (focus (first | exact ⟨rfl, rfl⟩ | (simp only [i64s_length, u8s_length]; refine ⟨?_, ?_⟩ <;> first | rfl | assumption | omega))); (focus (first | exact i64s_one _ | exact u8s_one _ | simp [Value.oneCell'])); clear E; intro u E0; have E := Lib.hid E0; clear E0) | ((with_reducible refine kn_alloc (o := ⟨some 9, _, _, _, _, _⟩) E.out rfl rfl ?_); clear E; intro g9 u E0 hb0; have E := Lib.hid E0; clear E0 hb0) | ((with_reducible refine kn_box (o := ⟨some 9, _, _, _, _, _⟩) E.out rfl rfl rfl ?_); clear E; intro g9 u E0 hb0; have E := Lib.hid E0; clear E0 hb0) | ((with_reducible refine kn_box_int (o := ⟨some 9, _, _, _, _, _⟩) E.out rfl rfl rfl ?_); clear E; intro g9 u E0 hb0; have E := Lib.hid E0; clear E0 hb0) | ((with_reducible refine kn_box_slice (o := ⟨some 9, _, _, _, _, _⟩) E.out rfl rfl rfl ?_); clear E; intro g9 u E0 hb0; have E := Lib.hid E0; clear E0 hb0) | ((with_reducible refine kn_box_bool (o := ⟨some 9, _, _, _, _, _⟩) E.out rfl rfl rfl ?_); clear E; intro g9 u E0 hb0; have E := Lib.hid E0; clear E0 hb0) | ((with_reducible refine kn_box_func (o := ⟨some 9, _, _, _, _, _⟩) E.out rfl rfl rfl ?_); clear E; intro g9 u E0 hb0; have E := Lib.hid E0; clear E0 hb0) | ((with_reducible refine kn_alloc E.out rfl rfl ?_); clear E; intro g u E0 hb0; have E := Lib.hid E0; clear E0 hb0) | ((with_reducible refine kn_box E.out rfl rfl rfl ?_); clear E; intro g u E0 hb0; have E := Lib.hid E0; clear E0 hb0) | ((with_reducible refine kn_box_int E.out rfl rfl rfl ?_); clear E; intro g u E0 hb0; have E := Lib.hid E0; clear E0 hb0) | ((with_reducible refine kn_box_slice E.out rfl rfl rfl ?_); clear E; intro g u E0 hb0; have E := Lib.hid E0; clear E0 hb0) | ((with_reducible refine kn_box_bool E.out rfl rfl rfl ?_); clear E; intro g u E0 hb0; have E := Lib.hid E0; clear E0 hb0) | ((with_reducible refine kn_box_func E.out rfl rfl rfl ?_); clear E; intro g u E0 hb0; have E := Lib.hid E0; clear E0 hb0))

        go_roundw
        case rel => exact ⟨1, by omega, by go_num, Lib.hid ⟨fun _ => hc.out, fun h => absurd h (by omega), fun h => absurd h (by omega)⟩, E.out.part _ _ (by repeat (first | exact List.Sublist.refl _ | apply List.Sublist.cons_cons | apply List.Sublist.cons)) (by simp)⟩
        case measure => simp [intOf]
    · have hI := hI1.out
      have lQ := lY
      have hN := nY
      clear hI0 hI1 hI2 nX nY nZ
      have hQ := eq_subset 3 1 parts part
      by_cases hc : parts = 3 ∧ part = 1
      · have hG2 := Lib.hid (show G = (y : Int) from by rw [hG.out]; simp [hc.1, hc.2])
        obtain ⟨rfl, rfl⟩ := hc
        have hQ2 : ∀ u, (Op.equalIn 10000 106 (.agg #[.int .i64 3, .int .i64 1]) (.agg #[.int .i64 3, .int .i64 1])).run Tryd.prog u = .ok true u := fun u => by rw [hQ u]; rfl
        clear hQ hP hG
        go_wp2_with (first
          | ((with_reducible refine kn_stores E.out rfl rfl rfl rfl rfl ?hl ?h1 ?_); (case hl => exact ⟨anR_length _ _ _ rfl, anR_length _ _ _ lQ⟩); (case h1 => exact anR_one _ _ _); clear E; intro u E0; have E := Lib.hid E0; clear E0)
          | ((with_reducible refine kn_loadv (g := g9) (off := 0) E.out rfl rfl ?hx (anR_head _ _ _) rfl ?_); (case hx => rfl))
          | ((with_reducible refine kn_load (g := g9) (i := 2 + k) E.out rfl rfl ?hx hN.out ?_); (case hx => rfl))
          | ((with_reducible refine kn_load E.out rfl rfl rfl rfl ?_)) | ((with_reducible refine kn_load_if E.out rfl rfl rfl rfl ?_)) | ((with_reducible refine kn_loads E.out rfl rfl rfl ?_ ?_); (focus (first | rfl | (simp only [i64s_length, u8s_length]; first | rfl | assumption | omega)))) | ((with_reducible refine kn_loads_if E.out rfl rfl rfl ?_ ?_); (focus (first | rfl | (simp only [i64s_length, u8s_length]; first | rfl | assumption | omega)))) | ((with_reducible refine kn_store1_int E.out rfl rfl rfl rfl rfl ?_); clear E; intro u E0; have E := Lib.hid E0; clear E0) | ((with_reducible refine kn_store1_slice E.out rfl rfl rfl rfl rfl ?_); clear E; intro u E0; have E := Lib.hid E0; clear E0) | ((with_reducible refine kn_store1_bool E.out rfl rfl rfl rfl rfl ?_); clear E; intro u E0; have E := Lib.hid E0; clear E0) | ((with_reducible refine kn_stores E.out rfl rfl rfl rfl rfl ?_ ?_ ?_); (focus (first | exact ⟨rfl, rfl⟩ | (simp only [i64s_length, u8s_length]; refine ⟨?_, ?_⟩ <;> first | rfl | assumption | omega))); (focus (first | exact i64s_one _ | exact u8s_one _ | simp [Value.oneCell'])); clear E; intro u E0; have E := Lib.hid E0; clear E0) | ((with_reducible refine kn_alloc (o := ⟨some 9, _, _, _, _, _⟩) E.out rfl rfl ?_); clear E; intro g9 u E0 hb0; have E := Lib.hid E0; clear E0 hb0) | ((with_reducible refine kn_box (o := ⟨some 9, _, _, _, _, _⟩) E.out rfl rfl rfl ?_); clear E; intro g9 u E0 hb0; have E := Lib.hid E0; clear E0 hb0) | ((with_reducible refine kn_box_int (o := ⟨some 9, _, _, _, _, _⟩) E.out rfl rfl rfl ?_); clear E; intro g9 u E0 hb0; have E := Lib.hid E0; clear E0 hb0) | ((with_reducible refine kn_box_slice (o := ⟨some 9, _, _, _, _, _⟩) E.out rfl rfl rfl ?_); clear E; intro g9 u E0 hb0; have E := Lib.hid E0; clear E0 hb0) | ((with_reducible refine kn_box_bool (o := ⟨some 9, _, _, _, _, _⟩) E.out rfl rfl rfl ?_); clear E; intro g9 u E0 hb0; have E := Lib.hid E0; clear E0 hb0) | ((with_reducible refine kn_box_func (o := ⟨some 9, _, _, _, _, _⟩) E.out rfl rfl rfl ?_); clear E; intro g9 u E0 hb0; have E := Lib.hid E0; clear E0 hb0) | ((with_reducible refine kn_alloc E.out rfl rfl ?_); clear E; intro g u E0 hb0; have E := Lib.hid E0; clear E0 hb0) | ((with_reducible refine kn_box E.out rfl rfl rfl ?_); clear E; intro g u E0 hb0; have E := Lib.hid E0; clear E0 hb0) | ((with_reducible refine kn_box_int E.out rfl rfl rfl ?_); clear E; intro g u E0 hb0; have E := Lib.hid E0; clear E0 hb0) | ((with_reducible refine kn_box_slice E.out rfl rfl rfl ?_); clear E; intro g u E0 hb0; have E := Lib.hid E0; clear E0 hb0) | ((with_reducible refine kn_box_bool E.out rfl rfl rfl ?_); clear E; intro g u E0 hb0; have E := Lib.hid E0; clear E0 hb0) | ((with_reducible refine kn_box_func E.out rfl rfl rfl ?_); clear E; intro g u E0 hb0; have E := Lib.hid E0; clear E0 hb0))

        go_ret
        exact ⟨ret_int (by rw [hG2.out]; try exact wrap64_small _ (by omega) (by omega)), E.out.bel⟩
      · have hQ2 : ∀ u, (Op.equalIn 10000 106 (.agg #[.int .i64 3, .int .i64 1]) (.agg #[.int .i64 parts, .int .i64 part])).run Tryd.prog u = .ok false u := fun u => by
          rw [hQ u]
          congr 1
          rw [Bool.and_eq_false_iff, beq_eq_false_iff_ne, beq_eq_false_iff_ne]
          by_cases h1 : 3 = parts
          · exact .inr fun h2 => hc ⟨h1.symm, h2.symm⟩
          · exact .inl h1
        replace hc := Lib.hid hc
        clear hQ
        go_wp2_with (first
          | ((with_reducible refine kn_stores E.out rfl rfl rfl rfl rfl ?hl ?h1 ?_); (case hl => exact ⟨anR_length _ _ _ rfl, anR_length _ _ _ lQ⟩); (case h1 => exact anR_one _ _ _); clear E; intro u E0; have E := Lib.hid E0; clear E0)
          | ((with_reducible refine kn_loadv (g := g9) (off := 0) E.out rfl rfl ?hx (anR_head _ _ _) rfl ?_); (case hx => rfl))
          | ((with_reducible refine kn_load (g := g9) (i := 2 + k) E.out rfl rfl ?hx hN.out ?_); (case hx => rfl))
          | ((with_reducible refine kn_load E.out rfl rfl rfl rfl ?_)) | ((with_reducible refine kn_load_if E.out rfl rfl rfl rfl ?_)) | ((with_reducible refine kn_loads E.out rfl rfl rfl ?_ ?_); (focus (first | rfl | (simp only [i64s_length, u8s_length]; first | rfl | assumption | omega)))) | ((with_reducible refine kn_loads_if E.out rfl rfl rfl ?_ ?_); (focus (first | rfl | (simp only [i64s_length, u8s_length]; first | rfl | assumption | omega)))) | ((with_reducible refine kn_store1_int E.out rfl rfl rfl rfl rfl ?_); clear E; intro u E0; have E := Lib.hid E0; clear E0) | ((with_reducible refine kn_store1_slice E.out rfl rfl rfl rfl rfl ?_); clear E; intro u E0; have E := Lib.hid E0; clear E0) | ((with_reducible refine kn_store1_bool E.out rfl rfl rfl rfl rfl ?_); clear E; intro u E0; have E := Lib.hid E0; clear E0) | ((with_reducible refine kn_stores E.out rfl rfl rfl rfl rfl ?_ ?_ ?_); (focus (first | exact ⟨rfl, rfl⟩ | (simp only [i64s_length, u8s_length]; refine ⟨?_, ?_⟩ <;> first | rfl | assumption | omega))); (focus (first | exact i64s_one _ | exact u8s_one _ | simp [Value.oneCell'])); clear E; intro u E0; have E := Lib.hid E0; clear E0) | ((with_reducible refine kn_alloc (o := ⟨some 9, _, _, _, _, _⟩) E.out rfl rfl ?_); clear E; intro g9 u E0 hb0; have E := Lib.hid E0; clear E0 hb0) | ((with_reducible refine kn_box (o := ⟨some 9, _, _, _, _, _⟩) E.out rfl rfl rfl ?_); clear E; intro g9 u E0 hb0; have E := Lib.hid E0; clear E0 hb0) | ((with_reducible refine kn_box_int (o := ⟨some 9, _, _, _, _, _⟩) E.out rfl rfl rfl ?_); clear E; intro g9 u E0 hb0; have E := Lib.hid E0; clear E0 hb0) | ((with_reducible refine kn_box_slice (o := ⟨some 9, _, _, _, _, _⟩) E.out rfl rfl rfl ?_); clear E; intro g9 u E0 hb0; have E := Lib.hid E0; clear E0 hb0) | ((with_reducible refine kn_box_bool (o := ⟨some 9, _, _, _, _, _⟩) E.out rfl rfl rfl ?_); clear E; intro g9 u E0 hb0; have E := Lib.hid E0; clear E0 hb0) | ((with_reducible refine kn_box_func (o := ⟨some 9, _, _, _, _, _⟩) E.out rfl rfl rfl ?_); clear E; intro g9 u E0 hb0; have E := Lib.hid E0; clear E0 hb0) | ((with_reducible refine kn_alloc E.out rfl rfl ?_); clear E; intro g u E0 hb0; have E := Lib.hid E0; clear E0 hb0) | ((with_reducible refine kn_box E.out rfl rfl rfl ?_); clear E; intro g u E0 hb0; have E := Lib.hid E0; clear E0 hb0) | ((with_reducible refine kn_box_int E.out rfl rfl rfl ?_); clear E; intro g u E0 hb0; have E := Lib.hid E0; clear E0 hb0) | ((with_reducible refine kn_box_slice E.out rfl rfl rfl ?_); clear E; intro g u E0 hb0; have E := Lib.hid E0; clear E0 hb0) | ((with_reducible refine kn_box_bool E.out rfl rfl rfl ?_); clear E; intro g u E0 hb0; have E := Lib.hid E0; clear E0 hb0) | ((with_reducible refine kn_box_func E.out rfl rfl rfl ?_); clear E; intro g u E0 hb0; have E := Lib.hid E0; clear E0 hb0))

        go_roundw
        case rel => exact ⟨2, by omega, by go_num, Lib.hid ⟨fun _ => hP.out.1 (by omega), fun h => hc.out, fun h => absurd h (by omega)⟩, E.out.part _ _ (by repeat (first | exact List.Sublist.refl _ | apply List.Sublist.cons_cons | apply List.Sublist.cons)) (by simp)⟩
        case measure => simp [intOf]
    · have hI := hI2.out
      have lQ := lZ
      have hN := nZ
      clear hI0 hI1 hI2 nX nY nZ
      have hQ := eq_subset 3 2 parts part
      by_cases hc : parts = 3 ∧ part = 2
      · have hG2 := Lib.hid (show G = (z : Int) from by rw [hG.out]; simp [hc.1, hc.2])
        obtain ⟨rfl, rfl⟩ := hc
        have hQ2 : ∀ u, (Op.equalIn 10000 106 (.agg #[.int .i64 3, .int .i64 2]) (.agg #[.int .i64 3, .int .i64 2])).run Tryd.prog u = .ok true u := fun u => by rw [hQ u]; rfl
        clear hQ hP hG
        go_wp2_with (first
          | ((with_reducible refine kn_stores E.out rfl rfl rfl rfl rfl ?hl ?h1 ?_); (case hl => exact ⟨anR_length _ _ _ rfl, anR_length _ _ _ lQ⟩); (case h1 => exact anR_one _ _ _); clear E; intro u E0; have E := Lib.hid E0; clear E0)
          | ((with_reducible refine kn_loadv (g := g9) (off := 0) E.out rfl rfl ?hx (anR_head _ _ _) rfl ?_); (case hx => rfl))
          | ((with_reducible refine kn_load (g := g9) (i := 2 + k) E.out rfl rfl ?hx hN.out ?_); (case hx => rfl))
          | ((with_reducible refine kn_load E.out rfl rfl rfl rfl ?_)) | ((with_reducible refine kn_load_if E.out rfl rfl rfl rfl ?_)) | ((with_reducible refine kn_loads E.out rfl rfl rfl ?_ ?_); (focus (first | rfl | (simp only [i64s_length, u8s_length]; first | rfl | assumption | omega)))) | ((with_reducible refine kn_loads_if E.out rfl rfl rfl ?_ ?_); (focus (first | rfl | (simp only [i64s_length, u8s_length]; first | rfl | assumption | omega)))) | ((with_reducible refine kn_store1_int E.out rfl rfl rfl rfl rfl ?_); clear E; intro u E0; have E := Lib.hid E0; clear E0) | ((with_reducible refine kn_store1_slice E.out rfl rfl rfl rfl rfl ?_); clear E; intro u E0; have E := Lib.hid E0; clear E0) | ((with_reducible refine kn_store1_bool E.out rfl rfl rfl rfl rfl ?_); clear E; intro u E0; have E := Lib.hid E0; clear E0) | ((with_reducible refine kn_stores E.out rfl rfl rfl rfl rfl ?_ ?_ ?_); (focus (first | exact ⟨rfl, rfl⟩ | (simp only [i64s_length, u8s_length]; refine ⟨?_, ?_⟩ <;> first | rfl | assumption | omega))); (focus (first | exact i64s_one _ | exact u8s_one _ | simp [Value.oneCell'])); clear E; intro u E0; have E := Lib.hid E0; clear E0) | ((with_reducible refine kn_alloc (o := ⟨some 9, _, _, _, _, _⟩) E.out rfl rfl ?_); clear E; intro g9 u E0 hb0; have E := Lib.hid E0; clear E0 hb0) | ((with_reducible refine kn_box (o := ⟨some 9, _, _, _, _, _⟩) E.out rfl rfl rfl ?_); clear E; intro g9 u E0 hb0; have E := Lib.hid E0; clear E0 hb0) | ((with_reducible refine kn_box_int (o := ⟨some 9, _, _, _, _, _⟩) E.out rfl rfl rfl ?_); clear E; intro g9 u E0 hb0; have E := Lib.hid E0; clear E0 hb0) | ((with_reducible refine kn_box_slice (o := ⟨some 9, _, _, _, _, _⟩) E.out rfl rfl rfl ?_); clear E; intro g9 u E0 hb0; have E := Lib.hid E0; clear E0 hb0) | ((with_reducible refine kn_box_bool (o := ⟨some 9, _, _, _, _, _⟩) E.out rfl rfl rfl ?_); clear E; intro g9 u E0 hb0; have E := Lib.hid E0; clear E0 hb0) | ((with_reducible refine kn_box_func (o := ⟨some 9, _, _, _, _, _⟩) E.out rfl rfl rfl ?_); clear E; intro g9 u E0 hb0; have E := Lib.hid E0; clear E0 hb0) | ((with_reducible refine kn_alloc E.out rfl rfl ?_); clear E; intro g u E0 hb0; have E := Lib.hid E0; clear E0 hb0) | ((with_reducible refine kn_box E.out rfl rfl rfl ?_); clear E; intro g u E0 hb0; have E := Lib.hid E0; clear E0 hb0) | ((with_reducible refine kn_box_int E.out rfl rfl rfl ?_); clear E; intro g u E0 hb0; have E := Lib.hid E0; clear E0 hb0) | ((with_reducible refine kn_box_slice E.out rfl rfl rfl ?_); clear E; intro g u E0 hb0; have E := Lib.hid E0; clear E0 hb0) | ((with_reducible refine kn_box_bool E.out rfl rfl rfl ?_); clear E; intro g u E0 hb0; have E := Lib.hid E0; clear E0 hb0) | ((with_reducible refine kn_box_func E.out rfl rfl rfl ?_); clear E; intro g u E0 hb0; have E := Lib.hid E0; clear E0 hb0))

        go_ret
        exact ⟨ret_int (by rw [hG2.out]; try exact wrap64_small _ (by omega) (by omega)), E.out.bel⟩
      · have hQ2 : ∀ u, (Op.equalIn 10000 106 (.agg #[.int .i64 3, .int .i64 2]) (.agg #[.int .i64 parts, .int .i64 part])).run Tryd.prog u = .ok false u := fun u => by
          rw [hQ u]
          congr 1
          rw [Bool.and_eq_false_iff, beq_eq_false_iff_ne, beq_eq_false_iff_ne]
          by_cases h1 : 3 = parts
          · exact .inr fun h2 => hc ⟨h1.symm, h2.symm⟩
          · exact .inl h1
        replace hc := Lib.hid hc
        clear hQ
        go_wp2_with (first
          | ((with_reducible refine kn_stores E.out rfl rfl rfl rfl rfl ?hl ?h1 ?_); (case hl => exact ⟨anR_length _ _ _ rfl, anR_length _ _ _ lQ⟩); (case h1 => exact anR_one _ _ _); clear E; intro u E0; have E := Lib.hid E0; clear E0)
          | ((with_reducible refine kn_loadv (g := g9) (off := 0) E.out rfl rfl ?hx (anR_head _ _ _) rfl ?_); (case hx => rfl))
          | ((with_reducible refine kn_load (g := g9) (i := 2 + k) E.out rfl rfl ?hx hN.out ?_); (case hx => rfl))
          | ((with_reducible refine kn_load E.out rfl rfl rfl rfl ?_)) | ((with_reducible refine kn_load_if E.out rfl rfl rfl rfl ?_)) | ((with_reducible refine kn_loads E.out rfl rfl rfl ?_ ?_); (focus (first | rfl | (simp only [i64s_length, u8s_length]; first | rfl | assumption | omega)))) | ((with_reducible refine kn_loads_if E.out rfl rfl rfl ?_ ?_); (focus (first | rfl | (simp only [i64s_length, u8s_length]; first | rfl | assumption | omega)))) | ((with_reducible refine kn_store1_int E.out rfl rfl rfl rfl rfl ?_); clear E; intro u E0; have E := Lib.hid E0; clear E0) | ((with_reducible refine kn_store1_slice E.out rfl rfl rfl rfl rfl ?_); clear E; intro u E0; have E := Lib.hid E0; clear E0) | ((with_reducible refine kn_store1_bool E.out rfl rfl rfl rfl rfl ?_); clear E; intro u E0; have E := Lib.hid E0; clear E0) | ((with_reducible refine kn_stores E.out rfl rfl rfl rfl rfl ?_ ?_ ?_); (focus (first | exact ⟨rfl, rfl⟩ | (simp only [i64s_length, u8s_length]; refine ⟨?_, ?_⟩ <;> first | rfl | assumption | omega))); (focus (first | exact i64s_one _ | exact u8s_one _ | simp [Value.oneCell'])); clear E; intro u E0; have E := Lib.hid E0; clear E0) | ((with_reducible refine kn_alloc (o := ⟨some 9, _, _, _, _, _⟩) E.out rfl rfl ?_); clear E; intro g9 u E0 hb0; have E := Lib.hid E0; clear E0 hb0) | ((with_reducible refine kn_box (o := ⟨some 9, _, _, _, _, _⟩) E.out rfl rfl rfl ?_); clear E; intro g9 u E0 hb0; have E := Lib.hid E0; clear E0 hb0) | ((with_reducible refine kn_box_int (o := ⟨some 9, _, _, _, _, _⟩) E.out rfl rfl rfl ?_); clear E; intro g9 u E0 hb0; have E := Lib.hid E0; clear E0 hb0) | ((with_reducible refine kn_box_slice (o := ⟨some 9, _, _, _, _, _⟩) E.out rfl rfl rfl ?_); clear E; intro g9 u E0 hb0; have E := Lib.hid E0; clear E0 hb0) | ((with_reducible refine kn_box_bool (o := ⟨some 9, _, _, _, _, _⟩) E.out rfl rfl rfl ?_); clear E; intro g9 u E0 hb0; have E := Lib.hid E0; clear E0 hb0) | ((with_reducible refine kn_box_func (o := ⟨some 9, _, _, _, _, _⟩) E.out rfl rfl rfl ?_); clear E; intro g9 u E0 hb0; have E := Lib.hid E0; clear E0 hb0) | ((with_reducible refine kn_alloc E.out rfl rfl ?_); clear E; intro g u E0 hb0; have E := Lib.hid E0; clear E0 hb0) | ((with_reducible refine kn_box E.out rfl rfl rfl ?_); clear E; intro g u E0 hb0; have E := Lib.hid E0; clear E0 hb0) | ((with_reducible refine kn_box_int E.out rfl rfl rfl ?_); clear E; intro g u E0 hb0; have E := Lib.hid E0; clear E0 hb0) | ((with_reducible refine kn_box_slice E.out rfl rfl rfl ?_); clear E; intro g u E0 hb0; have E := Lib.hid E0; clear E0 hb0) | ((with_reducible refine kn_box_bool E.out rfl rfl rfl ?_); clear E; intro g u E0 hb0; have E := Lib.hid E0; clear E0 hb0) | ((with_reducible refine kn_box_func E.out rfl rfl rfl ?_); clear E; intro g u E0 hb0; have E := Lib.hid E0; clear E0 hb0))

        go_roundw
        case rel => exact ⟨3, by omega, by go_num, Lib.hid ⟨fun _ => hP.out.1 (by omega), fun h => hP.out.2.1 (by omega), fun h => hc.out⟩, E.out.part _ _ (by repeat (first | exact List.Sublist.refl _ | apply List.Sublist.cons_cons | apply List.Sublist.cons)) (by simp)⟩
        case measure => simp [intOf]
    · have hG2 := Lib.hid (show G = 0 from by rw [hG.out, if_neg (hP.out.1 (by omega)), if_neg (hP.out.2.1 (by omega)), if_neg (hP.out.2.2 (by omega))])
      clear hP hG hI0 hI1 hI2 nX nY nZ
      go_wp2_with (first | ((with_reducible refine kn_load E.out rfl rfl rfl rfl ?_)) | ((with_reducible refine kn_load_if E.out rfl rfl rfl rfl ?_)) | ((with_reducible refine kn_loads E.out rfl rfl rfl ?_ ?_); (focus (first | rfl | (simp only [i64s_length, u8s_length]; first | rfl | assumption | omega)))) | ((with_reducible refine kn_loads_if E.out rfl rfl rfl ?_ ?_); (focus (first | rfl | (simp only [i64s_length, u8s_length]; first | rfl | assumption | omega)))) | ((with_reducible refine kn_store1_int E.out rfl rfl rfl rfl rfl ?_); clear E; intro u E0; have E := Lib.hid E0; clear E0) | ((with_reducible refine kn_store1_slice E.out rfl rfl rfl rfl rfl ?_); clear E; intro u E0; have E := Lib.hid E0; clear E0) | ((with_reducible refine kn_store1_bool E.out rfl rfl rfl rfl rfl ?_); clear E; intro u E0; have E := Lib.hid E0; clear E0) | ((with_reducible refine kn_stores E.out rfl rfl rfl rfl rfl ?_ ?_ ?_); (focus (first | exact ⟨rfl, rfl⟩ | (simp only [i64s_length, u8s_length]; refine ⟨?_, ?_⟩ <;> first | rfl | assumption | omega))); (focus (first | exact i64s_one _ | exact u8s_one _ | simp [Value.oneCell'])); clear E; intro u E0; have E := Lib.hid E0; clear E0) | ((with_reducible refine kn_alloc E.out rfl rfl ?_); clear E; intro g u E0 hb0; have E := Lib.hid E0; clear E0 hb0) | ((with_reducible refine kn_box E.out rfl rfl rfl ?_); clear E; intro g u E0 hb0; have E := Lib.hid E0; clear E0 hb0) | ((with_reducible refine kn_box_int E.out rfl rfl rfl ?_); clear E; intro g u E0 hb0; have E := Lib.hid E0; clear E0 hb0) | ((with_reducible refine kn_box_slice E.out rfl rfl rfl ?_); clear E; intro g u E0 hb0; have E := Lib.hid E0; clear E0 hb0) | ((with_reducible refine kn_box_bool E.out rfl rfl rfl ?_); clear E; intro g u E0 hb0; have E := Lib.hid E0; clear E0 hb0) | ((with_reducible refine kn_box_func E.out rfl rfl rfl ?_); clear E; intro g u E0 hb0; have E := Lib.hid E0; clear E0 hb0))
      go_ret
      exact ⟨ret_int hG2.out.symm, E.out.bel⟩
end Go.Proofs.YtnoailihkjccbaaDoor
