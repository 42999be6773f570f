/- EtctwoDecodes: any block's texels and kind, with punch-through alpha and without, and any distance are the document's; the tables are as the program's text lays them; no condition besides. -/
import Derived.Test.YtgcijioiicmjiaaDoorRows
import Derived.Test.YtgcijioiicmjiaaDoorCards
import Derived.Test.YtgcijioiicmjiaaDoorTie
import Derived.Test.YtgcijioiicmjiaaDoorE2Awake
import Derived.Test.YtgcijioiicmjiaaDoorE2Card
import Derived.Test.YtgcijioiicmjiaaDoorE2Rde
import Derived.Test.YtgcijioiicmjiaaDoorG11
import Derived.Test.YtgcijioiicmjiaaDoorOpenArr
import Derived.OpenShut
import Derived.ShutString
import Derived.ChangeOld
import Derived.Below
set_option linter.all false
namespace Go.Proofs.YtgcijioiicmjiaaDoor.etctwoDecodes
open Go.ChangeShapes Go.WideShapes Go.ChangeAt Go.RowKit
open Bi Lv Eo Et

set_option maxHeartbeats 8000000 in
set_option maxRecDepth 100000 in
theorem walk_far (w : World) (hG : Glb w) (A : Option Addr) (n c : Nat) (hn : n ≤ 9223372036854775807) (p : Bool) (a : Int) (h : ¬ n ≤ 40) :
    Calls Tryd.prog 3 #[.slice A n c, .bool p, .int .i64 a] w fun e w' => e = .returned (.bool true) ∧ Below w.heap.size w w' := by
  have E := Lib.hid ((Kn.start w).arg_glb hG)
  have hn40 : (40 : Int) < (n : Int) := by omega
  clear h hG
  go_enter Tryd.func3, Tryd.ntmps3
  go_wp2_with (first
    | (go_at_call 7; refine (awake11 _ (E.out.get (by simp))).mono ?_; rintro e w1 ⟨rfl, hb⟩; have E1 := Lib.hid (E.out.later hb); clear hb E; have E := E1; clear E1)
    | ((with_reducible refine kn_load E.out rfl rfl rfl rfl ?_)) | ((with_reducible refine kn_load_if E.out rfl rfl rfl rfl ?_)) | ((with_reducible refine kn_loads E.out rfl rfl rfl ?_ ?_); (focus (first | rfl | (simp only [i64s_length, u8s_length]; first | rfl | assumption | omega)))) | ((with_reducible refine kn_loads_if E.out rfl rfl rfl ?_ ?_); (focus (first | rfl | (simp only [i64s_length, u8s_length]; first | rfl | assumption | omega)))) | ((with_reducible refine kn_stores E.out rfl rfl rfl rfl rfl ?_ ?_ ?_); (focus (first | exact ⟨rfl, rfl⟩ | (simp only [i64s_length, u8s_length]; refine ⟨?_, ?_⟩ <;> first | rfl | assumption | omega))); (focus (first | exact i64s_one _ | exact u8s_one _ | simp [Value.oneCell'])); clear E; intro u E0; have E := Lib.hid E0; clear E0))
  go_ret
  exact ⟨rfl, E.out.bel⟩
set_option maxHeartbeats 8000000 in
set_option maxRecDepth 100000 in
theorem walk_near (w : World) (hG : Glb w) (A : Option Addr) (n c : Nat) (xs : List Nat) (hB : Bs w w.heap.size A n xs) (p : Bool) (a : Int) (h : n ≤ 40) :
    Calls Tryd.prog 3 #[.slice A n c, .bool p, .int .i64 a] w fun e w' => e = .returned (.bool true) ∧ Below w.heap.size w w' := by
  have E := Lib.hid ((((Kn.start w).arg_glb hG).arg_cells hG.dis).arg_bs hB)
  have hn40 : ¬ (40 : Int) < (n : Int) := by omega
  have he : deR2 n p xs = d2V n p xs := by
    unfold deR2
    by_cases h8 : n = 8
    · subst h8
      rw [if_pos rfl]
      exact deR_d2V p xs hB.1
    · rw [if_neg h8]
      unfold d2V
      rw [if_neg h8]
  have hD := Lib.hid (fun u hu hg => decode2_any A n c p xs u hu hg (by omega))
  rw [he] at hD
  have hR := Lib.hid (fun u hu => rdecode11 A n c p xs u hu (by omega))
  have hK := Lib.hid (fun u hu hg => kind2_any A n c p xs u hu hg (by omega))
  have hL := Lib.hid (fun u hu => kind11 A n c p xs u hu (by omega))
  have hS := Lib.hid (fun u hu => distance_any a u hu)
  have hU := Lib.hid (fun u => rdist11 a u)
  have hl := d2V_length n p xs
  have hzz := Lib.hid (show (i64s z64).length = 64 from rfl)
  have hq : ∀ u, (Op.equalIn 10000 27 (arr (d2V n p xs)) (arr (d2V n p xs))).run Tryd.prog u = .ok true u := fun u => by
    have k := eq_tile _ _ hl hl u
    rw [beq_self_eq_true] at k
    exact k
  replace hl := Lib.hid hl
  clear h hG hB he
  generalize d2V n p xs = DV at *
  generalize paE n = pe at *
  generalize kdV n p xs = kv at *
  generalize disV a = dv at *
  go_enter Tryd.func3, Tryd.ntmps3
  go_wp2_with (first
    | (go_at_call 7; refine (awake11 _ (E.out.get (by simp))).mono ?_; rintro e w1 ⟨rfl, hb⟩; have E1 := Lib.hid (E.out.later hb); clear hb E; have E := E1; clear E1)
    | (go_at_call 8; (with_reducible refine (hD.out _ ?ha ?hb).mono ?_); (case ha => exact E.out.bs (by simp)); (case hb => exact E.out.get (by simp)); clear hD; rintro e w2 ⟨rfl, hb⟩; have E1 := Lib.hid (E.out.later hb); clear hb E; have E := E1; clear E1)
    | (go_at_call 9; (with_reducible refine (hR.out _ ?ha).mono ?_); (case ha => exact E.out.bs (by simp)); clear hR; rintro e w2 ⟨rfl, hb⟩; have E1 := Lib.hid (E.out.later hb); clear hb E; have E := E1; clear E1)
    | (go_at_call 10; (with_reducible refine (hK.out _ ?ha ?hb).mono ?_); (case ha => exact E.out.bs (by simp)); (case hb => exact E.out.get (by simp)); clear hK; rintro e w2 ⟨rfl, hb⟩; have E1 := Lib.hid (E.out.later hb); clear hb E; have E := E1; clear E1)
    | (go_at_call 11; (with_reducible refine (hL.out _ ?ha).mono ?_); (case ha => exact E.out.bs (by simp)); clear hL; rintro e w2 ⟨rfl, hb⟩; have E1 := Lib.hid (E.out.later hb); clear hb E; have E := E1; clear E1)
    | (go_at_call 12; (with_reducible refine (hS.out _ ?ha).mono ?_); (case ha => exact E.out.get (by simp)); clear hS; rintro e w2 ⟨rfl, rfl⟩)
    | (go_at_call 13; (with_reducible refine (hU.out _).mono ?_); clear hU; rintro e w2 ⟨rfl, hb⟩; have E1 := Lib.hid (E.out.later hb); clear hb E; have E := E1; clear E1)
    | ((with_reducible refine kn_stores (g := g8) (vs := i64s DV) E.out rfl rfl rfl rfl rfl ?hl ?h1 ?_); (case hl => exact ⟨hzz.out, by rw [i64s_length]; exact hl.out⟩); (case h1 => exact i64s_one _); clear E; intro u E0; have E := Lib.hid E0; clear E0)
    | ((with_reducible refine kn_stores (g := g10) (vs := i64s DV) E.out rfl rfl rfl rfl rfl ?hl ?h1 ?_); (case hl => exact ⟨hzz.out, by rw [i64s_length]; exact hl.out⟩); (case h1 => exact i64s_one _); clear E; intro u E0; have E := Lib.hid E0; clear E0)
    | ((with_reducible refine kn_loads_if (g := g8) E.out rfl rfl rfl ?hl ?_); (case hl => rw [i64s_length]; exact hl.out))
    | ((with_reducible refine kn_loads_if (g := g10) E.out rfl rfl rfl ?hl ?_); (case hl => rw [i64s_length]; exact hl.out))
    | ((with_reducible refine kn_load E.out rfl rfl rfl rfl ?_)) | ((with_reducible refine kn_load_if E.out rfl rfl rfl rfl ?_)) | ((with_reducible refine kn_loads E.out rfl rfl rfl ?_ ?_); (focus (first | rfl | (simp only [i64s_length, u8s_length]; first | rfl | assumption | omega)))) | ((with_reducible refine kn_loads_if E.out rfl rfl rfl ?_ ?_); (focus (first | rfl | (simp only [i64s_length, u8s_length]; first | rfl | assumption | omega)))) | ((with_reducible refine kn_stores E.out rfl rfl rfl rfl rfl ?_ ?_ ?_); (focus (first | exact ⟨rfl, rfl⟩ | (simp only [i64s_length, u8s_length]; refine ⟨?_, ?_⟩ <;> first | rfl | assumption | omega))); (focus (first | exact i64s_one _ | exact u8s_one _ | simp [Value.oneCell'])); clear E; intro u E0; have E := Lib.hid E0; clear E0) | ((with_reducible refine kn_alloc (o := ⟨some 8, _, _, _, _, _⟩) E.out rfl rfl ?_); clear E; intro g8 u E0 hb0; have E := Lib.hid E0; clear E0 hb0) | ((with_reducible refine kn_box (o := ⟨some 8, _, _, _, _, _⟩) E.out rfl rfl rfl ?_); clear E; intro g8 u E0 hb0; have E := Lib.hid E0; clear E0 hb0) | ((with_reducible refine kn_box_int (o := ⟨some 8, _, _, _, _, _⟩) E.out rfl rfl rfl ?_); clear E; intro g8 u E0 hb0; have E := Lib.hid E0; clear E0 hb0) | ((with_reducible refine kn_box_slice (o := ⟨some 8, _, _, _, _, _⟩) E.out rfl rfl rfl ?_); clear E; intro g8 u E0 hb0; have E := Lib.hid E0; clear E0 hb0) | ((with_reducible refine kn_box_bool (o := ⟨some 8, _, _, _, _, _⟩) E.out rfl rfl rfl ?_); clear E; intro g8 u E0 hb0; have E := Lib.hid E0; clear E0 hb0) | ((with_reducible refine kn_box_func (o := ⟨some 8, _, _, _, _, _⟩) E.out rfl rfl rfl ?_); clear E; intro g8 u E0 hb0; have E := Lib.hid E0; clear E0 hb0) | ((with_reducible refine kn_alloc (o := ⟨some 10, _, _, _, _, _⟩) E.out rfl rfl ?_); clear E; intro g10 u E0 hb0; have E := Lib.hid E0; clear E0 hb0) | ((with_reducible refine kn_box (o := ⟨some 10, _, _, _, _, _⟩) E.out rfl rfl rfl ?_); clear E; intro g10 u E0 hb0; have E := Lib.hid E0; clear E0 hb0) | ((with_reducible refine kn_box_int (o := ⟨some 10, _, _, _, _, _⟩) E.out rfl rfl rfl ?_); clear E; intro g10 u E0 hb0; have E := Lib.hid E0; clear E0 hb0) | ((with_reducible refine kn_box_slice (o := ⟨some 10, _, _, _, _, _⟩) E.out rfl rfl rfl ?_); clear E; intro g10 u E0 hb0; have E := Lib.hid E0; clear E0 hb0) | ((with_reducible refine kn_box_bool (o := ⟨some 10, _, _, _, _, _⟩) E.out rfl rfl rfl ?_); clear E; intro g10 u E0 hb0; have E := Lib.hid E0; clear E0 hb0) | ((with_reducible refine kn_box_func (o := ⟨some 10, _, _, _, _, _⟩) E.out rfl rfl rfl ?_); clear E; intro g10 u E0 hb0; have E := Lib.hid E0; clear E0 hb0))
  go_ret
  exact ⟨rfl, E.out.bel⟩
theorem walk (w : World) (hG : Glb w) (A : Option Addr) (n c : Nat) (xs : List Nat) (hB : Bs w w.heap.size A n xs) (hc : n ≤ c) (hcm : c ≤ 9223372036854775807) (p : Bool) (a : Int) (_ : -9223372036854775808 ≤ a ∧ a ≤ 9223372036854775807) :
    Calls Tryd.prog 3 #[.slice A n c, .bool p, .int .i64 a] w fun e w' => e = .returned (.bool true) ∧ Below w.heap.size w w' := by
  by_cases h : n ≤ 40
  · exact walk_near w hG A n c xs hB p a h
  · exact walk_far w hG A n c (by omega) p a h

theorem laidOut : laidOutB Tryd.prog = true := by kernel_rfl
set_option maxRecDepth 100000 in
theorem contract (H : Type) (enc : TypeId × Value → H) (W : World) (base : Nat) (args : Array Value) (ds gs : List (DataW H)) (before : List MemPlace)
    (hval0 : ∀ (j : Nat) t v, Tryd.f3.params[j]? = some t → args[j]? = some v → Value.okWide Tryd.prog W .any base t v)
    (hW : DataW.Whole enc Tryd.prog Tryd.f3.params.toList Rows.etctwoDecodesSpec.vars false W args.toList ds gs before) (hL : laidMetH Tryd.prog Rows.etctwoDecodesRow.laid W) :
    Calls Tryd.prog 3 args W fun e W' => ∃ v, e = .returned v ∧ Rows.etctwoDecodesSpec.post enc Tryd.prog Tryd.f3 false true false false W args v W' := by
  have hval : ∀ (j : Nat) t v, Tryd.f3.params[j]? = some t → args[j]? = some v → Value.okWide Tryd.prog W .any base t v := hval0
  have hW' := hW
  obtain ⟨p, q, hA0, hV, rfl, hfz, hnd⟩ := hW
  have hA : DataW.TrodAll enc Tryd.prog W 0 (fun _ => true) true Tryd.f3.params.toList args.toList ds p := hA0
  rw [Tryd.params3] at hA hval
  obtain ⟨v0, vs0, d0, ds0, p0, q0, hargs, rfl, rfl, h0, r0⟩ := trodAll_cons hA
  obtain ⟨v1, vs1, d1, ds1, p1, q1, rfl, rfl, rfl, h1, r1⟩ := trodAll_cons r0
  obtain ⟨v2, vs2, d2, ds2, p2, q2, rfl, rfl, rfl, h2, r2⟩ := trodAll_cons r1
  obtain ⟨rfl, rfl, rfl⟩ := trodAll_nil r2
  obtain rfl : args = #[v0, v1, v2] := by cases args; simp_all
  have lt0 : ∀ x ∈ p0, x.block < W.heap.size := by obtain ⟨m, hm⟩ := h0; exact DataW.trod_lt m _ _ _ hm
  obtain ⟨rfl, rfl⟩ := trodVars_none hV
  obtain ⟨A0, n0, c0, xs0, rfl, hB0, hc0, hcm0⟩ := open_bytes Tryd.underlying22 Tryd.underlying5 (by kernel_rfl) (hval 0 22 v0 rfl rfl) h0
  obtain ⟨a1, rfl, rfl, rfl⟩ := open_bool Tryd.underlying4 (hval 1 4 v1 rfl rfl) h1
  obtain ⟨a2, rfl, rfl, rfl, w2⟩ := open_int Tryd.underlying3 (hval 2 3 v2 rfl rfl) h2
  have hm2 := bounds_i64 w2
  clear hA0 hval0
  refine (walk W (tabs hL) A0 n0 c0 xs0 hB0 hc0 hcm0 a1 a2 hm2).mono fun e W' ⟨he, bel⟩ => ?_
  subst he
  exact ⟨_, rfl, _, _, _, [], _, [], hW', trodAll_mk1 (shut_bool Tryd.underlying4 _), (trodAll_cons_mk (Below.trod laidOut (by kernel_rfl) (of_decide_eq_true (by kernel_rfl)) h0 bel lt0) (trodAll_cons_mk (shut_bool Tryd.underlying4 _) (trodAll_cons_mk (shut_int Tryd.underlying3 w2) trodAll_mk0))), rfl, bel.frame _, fun h => by cases h⟩

theorem reads (os : Os) {H : Type} (enc : TypeId × Value → H) : ∃ places, DataW.whole enc Tryd.prog ((laidWorld os).forCall (fun _ _ => 0) ⟨#[], #[.slice none 0 0, .bool false, .int .i64 0], []⟩).memory Tryd.f3.params.toList Rows.etctwoDecodesSpec.vars false (#[.slice none 0 0, .bool false, .int .i64 0] : Array Value).toList 8 = some ([.nil, .lit (.bool false), .lit (.int .i64 0)], [], places) :=
  ⟨[], by kernel_rfl⟩

set_option maxRecDepth 100000 in
theorem lifted (os : Os) (started : os.Started) (H : Type) (enc : TypeId × Value → H) (F : Stop.Interp) :
    ReturnsInHanded {} Tryd.checked os 3 .any ((OpenSpec.ofChange Rows.etctwoDecodesSpec).preRow enc Tryd.prog Tryd.f3 Rows.etctwoDecodesRow.domain false Rows.etctwoDecodesRow.laid) (((OpenSpec.ofChange Rows.etctwoDecodesSpec).at F).post enc Tryd.prog Tryd.f3 false true false false) := by
  obtain ⟨places, hx⟩ := reads os enc
  refine returnsInHanded_of_row (C := Tryd.checked) (s := OpenSpec.ofChange Rows.etctwoDecodesSpec) own started (by kernel_rfl) Tryd.func3
    (witness_row_at (enc := enc) (C := Tryd.checked) false (laidWorld os) #[.slice none 0 0, .bool false, .int .i64 0] rfl (by kernel_rfl) (by kernel_rfl) (by kernel_rfl)
      (OpenSpec.preRow_of_cond 8 hx (by kernel_rfl) (fun k hk => by cases hk) (by kernel_rfl) (laid_met os _))) ?_
  intro W base args ds gs before hval hW _ _ _ hL _ _
  exact contract H enc W base args ds gs before hval hW hL

theorem said : Rows.EtctwoDecodesSaid :=
  OpenClaim.holds_of_cond 3 Tryd.f3 rfl rfl rfl rfl rfl rfl rfl ⟨rfl, rfl, rfl, rfl, rfl⟩ rfl rfl rfl rfl rfl (by kernel_rfl) Tryd.func3 (by kernel_rfl)
    (of_decide_eq_true (by kernel_rfl)) (by unfold Func.isWrapper; first | (rw [if_pos (by decide +kernel)]; kernel_rfl) | (rw [if_neg (by decide +kernel)]; exact ⟨rfl, rfl⟩))
    (fun os started H enc _ F => by rw [OpenClaim.pre_eq_preRow]; exact lifted os started H enc F)

theorem plain (f : FuncId) (fn : Func) (hf : Tryd.pinned.checked.prog.funcNamed "swatch/swatchlaw11.EtctwoDecodes" = some f) (hfn : Tryd.pinned.checked.prog.funcs[f]? = some fn) :
    false = Tryd.pinned.checked.prog.looks [] ∧ ∀ (j : Nat) t, fn.params[j]? = some t → Tryd.pinned.checked.prog.wantsStandIn t = false := by
  obtain rfl : f = 3 := Option.some.inj ((show Tryd.prog.funcNamed "swatch/swatchlaw11.EtctwoDecodes" = some 3 by kernel_rfl).symm.trans hf) |>.symm
  obtain rfl : fn = Tryd.f3 := (Option.some.inj (Tryd.func3.symm.trans hfn)).symm
  refine ⟨by kernel_rfl, fun j t ht => ?_⟩
  rw [Tryd.params3] at ht
  have hm := Array.mem_of_getElem? ht
  simp only [List.mem_toArray, List.mem_cons, List.not_mem_nil, or_false] at hm
  rcases hm with rfl | rfl | rfl
  · exact (show Tryd.prog.wantsStandIn 22 = false by kernel_rfl)
  · exact (show Tryd.prog.wantsStandIn 4 = false by kernel_rfl)
  · exact (show Tryd.prog.wantsStandIn 3 = false by kernel_rfl)

theorem card : Rows.EtctwoDecodesCardSaid :=
  Claim7.holds_tied_plain_at .later [] _ _ _ _ said (fun _ h => by cases h) (by kernel_rfl) (fun _ h => by cases h) etctwoDecodes_row_tie rfl ⟨rfl, rfl⟩ (by kernel_rfl) rfl plain (by kernel_rfl)
end Go.Proofs.YtgcijioiicmjiaaDoor.etctwoDecodes

namespace Go.Proofs.YtgcijioiicmjiaaDoor
theorem etctwoDecodes_holds : Rows.EtctwoDecodesCardSaid := etctwoDecodes.card
#print axioms etctwoDecodes_holds
end Go.Proofs.YtgcijioiicmjiaaDoor
