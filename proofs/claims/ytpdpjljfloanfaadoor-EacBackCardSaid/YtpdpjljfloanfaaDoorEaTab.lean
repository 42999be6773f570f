/- Tables and values of blocks of one number for each texel: the program's, the document's. -/
import Derived.Test.YtpdpjljfloanfaaDoorEaPlain
import Derived.Test.YtpdpjljfloanfaaDoorKnV
import Derived.Test.YtpdpjljfloanfaaDoorLvWide
import Derived.Test.YtpdpjljfloanfaaDoorBitApi
import Derived.Test.YtpdpjljfloanfaaDoorBitRset
set_option linter.all false
namespace Go.Proofs.YtpdpjljfloanfaaDoor
open Go.RowKit
open Bi Lv Bc Ea
open Eo (pos pos_lt pos_pos getN_bit getN_lt' getN_eq G G_bd)
instance : Aggr 31 8 := ⟨⟨_, Tryd.underlying31, rfl⟩, by kernel_rfl⟩
instance : ZeroV 31 (i64s [0, 0, 0, 0, 0, 0, 0, 0]) := .of (by kernel_rfl)

theorem mask_any (v : Int) (b : Nat) (hb : b ≤ 16) : bits .and .i64 v (wrap64 (wrap64 (2 ^ b) - 1)) = v % ((2 ^ b : Nat) : Int) := by
  have h1 : 2 ^ b ≤ 2 ^ 16 := Nat.pow_le_pow_right (by omega) hb
  have h0 : 0 < 2 ^ b := Nat.two_pow_pos b
  have e0 : (2 : Int) ^ b = ((2 ^ b : Nat) : Int) := by simp
  rw [e0, wrap64_small ((2 ^ b : Nat) : Int) (by omega) (by omega), wrap64_small _ (by omega) (by omega), show ((2 ^ b : Nat) : Int) - 1 = ((2 ^ b - 1 : Nat) : Int) from by omega]
  show IntKind.i64.wrap ((BitVec.ofInt 64 v &&& BitVec.ofInt 64 ((2 ^ b - 1 : Nat) : Int)).toNat : Int) = _
  rw [BitVec.toNat_and, ofInt_i64 _ (by omega), Nat.and_two_pow_sub_one_eq_mod, BitVec.toNat_ofInt]
  have h2 : (v % ((2 ^ 64 : Nat) : Int)).toNat % 2 ^ b = (v % ((2 ^ b : Nat) : Int)).toNat := by
    have hd : ((2 ^ b : Nat) : Int) ∣ ((2 ^ 64 : Nat) : Int) := Int.natCast_dvd_natCast.2 (Nat.pow_dvd_pow 2 (by omega))
    have := Int.emod_emod_of_dvd v hd
    apply Int.ofNat.inj
    show (((v % ((2 ^ 64 : Nat) : Int)).toNat % 2 ^ b : Nat) : Int) = ((v % ((2 ^ b : Nat) : Int)).toNat : Int)
    rw [Int.natCast_emod, Int.toNat_of_nonneg (Int.emod_nonneg _ (by decide)), Int.toNat_of_nonneg (Int.emod_nonneg _ (by omega)), this]
  rw [h2]
  have h4 := Int.emod_nonneg v (show ((2 ^ b : Nat) : Int) ≠ 0 by omega)
  have h3 : (v % ((2 ^ b : Nat) : Int)).toNat < 2 ^ b := by
    have := Int.emod_lt_of_pos v (show (0 : Int) < ((2 ^ b : Nat) : Int) by omega)
    omega
  rw [IntKind.wrap_i64]
  omega
theorem top_any (A : Option Addr) (n c : Nat) (P M : Int) (p m : Nat) (hP : P = (p : Int)) (hM : M = (m : Int)) (xs : List Nat) (B : Nat) (w : World) (h : Bs w B A n xs) (hn : n ≤ 140737488355328) (hm : m ≤ 16) (hp : p + m ≤ 8 * n) :
    Calls Tryd.prog 22 #[.slice A n c, .int .i64 P, .int .i64 M] w fun e w' => e = .returned (.int .i64 (G xs p m)) ∧ w = w' := by
  subst hP hM
  have hg := Lib.hid (rget_any A n c (p : Int) (m : Int) true xs B w h hn)
  have hx : xs.length = n := h.1
  have hE : getE n (p : Int) (m : Int) = 0 := getE_zero (by omega) (by omega)
  rw [getV_ok hx hE, hE] at hg
  have hl := getN_lt' xs p m
  have h16 : 2 ^ m ≤ 2 ^ 16 := Nat.pow_le_pow_right (by omega) hm
  unfold G
  clear h hE hx
  generalize getN xs true p m = N at *
  go_enter Tryd.func22, Tryd.ntmps22
  go_wp2_with (go_at_call 33; refine hg.out.mono ?_; rintro e w1 ⟨rfl, rfl⟩)
  go_ret
  exact ⟨rfl, rfl⟩
/-- The tables lie in the program's variable. -/
def Tabs (W : World) : Prop := cellsF 0 (i64s numE) W
theorem Kn.arg_tabs {w u : World} {R : List Res} {F : List (World → Prop)} (E : Kn w R F u) (h : Tabs w) : Kn w R (Tabs :: F) u := E.arg_cells h
section
variable {w u u' : World} {R R' : List Res} {F : List (World → Prop)} {ops : Array Oper} {rest : List Oper} {o : Oper} {a : Act} {Q : Exit → Act → World → Prop} {K : Act → World → Prop}
theorem cells_range {u : World} {g : Nat} {zs : List Int} (h : cellsF g (i64s zs) u) (off m : Nat) : u.rangeAt g off (i64s ((zs.drop off).take m)) := fun j v hv => by
  rw [i64s_take, i64s_drop, List.getElem?_take] at hv
  split at hv
  · rw [List.getElem?_drop] at hv
    exact h (off + j) v hv
  · cases hv
theorem kn_gloadp (E : Kn w R F u) (hgd : o.guard = none) {ty : TypeId} {x : Operand} (ho : o.op = .load ty x) {g off : Nat} (hx : a.eval x = .pointer (some ⟨g, off, none⟩)) {zs : List Int} (hm : cellsF g (i64s zs) ∈ F) {m : Nat} [A : Aggr ty m] (hl : off + m ≤ zs.length)
    (h : wpList Tryd.prog ops Q rest (a.put o.dst (arr ((zs.drop off).take m))) u) : wpList Tryd.prog ops Q (o :: rest) a u := by
  obtain ⟨d, hu, hd⟩ := A.desc
  refine wpList_load_mid hgd ty x ho g off hx _ d (cells_range (E.get hm) off m) hu hd (by rw [A.size, i64s_length, List.length_take, List.length_drop, Nat.min_eq_left (by omega)]) h
end
set_option maxHeartbeats 2000000 in
set_option maxRecDepth 100000 in
theorem table_any (n : Int) (w : World) (hN : Tabs w) : Calls Tryd.prog 11 #[.int .i64 n] w fun e w' => e = .returned (arr (tabV n)) ∧ Below w.heap.size w w' := by
  have E := Lib.hid ((Kn.start w).arg_cells (show cellsF 0 (i64s numE) w from hN))
  have hA : bits .and .i64 n 15 = n % 16 := by
    have h := mask_any n 4 (by omega)
    rw [show (2 : Int) ^ 4 = 16 from rfl, wrap64_small 16 (by omega) (by omega), show (16 : Int) - 1 = 15 from rfl, wrap64_small 15 (by omega) (by omega)] at h
    exact h
  obtain ⟨k, hk⟩ : ∃ k : Nat, n % 16 = (k : Int) := ⟨(n % 16).toNat, by omega⟩
  have hk16 : k < 16 := by omega
  rw [hk] at hA
  have hT : tabV n = tabE k := by unfold tabV; rw [hk]; rfl
  have hp := Lib.hid (show (numE.drop (k * 8)).take 8 = tabE k from rfl)
  have hl8 := tabE_length k hk16
  have hll : Hid (numE.length = 128) := numE_length
  rw [hT]
  clear hT hk hN
  generalize tabE k = T at *
  generalize numE = NL at *
  go_enter Tryd.func11, Tryd.ntmps11
  go_wp2_with (first
    | ((with_reducible refine kn_gloadp (g := 0) (off := k * 8) E.out rfl rfl ?hx List.mem_cons_self ?hl ?_); (case hx => rfl); (case hl => have := hll.out; omega); rw [hp.out])
    | ((with_reducible refine kn_stores (g := g2) (vs := i64s T) E.out rfl rfl rfl rfl rfl ?hl ?h1 ?_); (case hl => exact ⟨rfl, by rw [i64s_length]; exact hl8⟩); (case h1 => exact i64s_one _); clear E; intro u E0; have E := Lib.hid E0; clear E0)
    | ((with_reducible refine kn_load E.out rfl rfl rfl rfl ?_)) | ((with_reducible refine kn_load_if E.out rfl rfl rfl rfl ?_)) | ((with_reducible refine kn_loads E.out rfl rfl rfl ?_ ?_); (focus (first | rfl | (simp only [i64s_length, u8s_length]; first | rfl | assumption | omega)))) | ((with_reducible refine kn_loads_if E.out rfl rfl rfl ?_ ?_); (focus (first | rfl | (simp only [i64s_length, u8s_length]; first | rfl | assumption | omega)))) | ((with_reducible refine kn_store1_int E.out rfl rfl rfl rfl rfl ?_); clear E; intro u E0; have E := Lib.hid E0; clear E0) | ((with_reducible refine kn_store1_slice E.out rfl rfl rfl rfl rfl ?_); clear E; intro u E0; have E := Lib.hid E0; clear E0) | ((with_reducible refine kn_store1_bool E.out rfl rfl rfl rfl rfl ?_); clear E; intro u E0; have E := Lib.hid E0; clear E0) | ((with_reducible refine kn_stores E.out rfl rfl rfl rfl rfl ?_ ?_ ?_); (focus (first | exact ⟨rfl, rfl⟩ | (simp only [i64s_length, u8s_length]; refine ⟨?_, ?_⟩ <;> first | rfl | assumption | omega))); (focus (first | exact i64s_one _ | exact u8s_one _ | simp [Value.oneCell'])); clear E; intro u E0; have E := Lib.hid E0; clear E0) | ((with_reducible refine kn_alloc (o := ⟨some 2, _, _, _, _, _⟩) E.out rfl rfl ?_); clear E; intro g2 u E0 hb0; have E := Lib.hid E0; clear E0 hb0) | ((with_reducible refine kn_box (o := ⟨some 2, _, _, _, _, _⟩) E.out rfl rfl rfl ?_); clear E; intro g2 u E0 hb0; have E := Lib.hid E0; clear E0 hb0) | ((with_reducible refine kn_box_int (o := ⟨some 2, _, _, _, _, _⟩) E.out rfl rfl rfl ?_); clear E; intro g2 u E0 hb0; have E := Lib.hid E0; clear E0 hb0) | ((with_reducible refine kn_box_slice (o := ⟨some 2, _, _, _, _, _⟩) E.out rfl rfl rfl ?_); clear E; intro g2 u E0 hb0; have E := Lib.hid E0; clear E0 hb0) | ((with_reducible refine kn_box_bool (o := ⟨some 2, _, _, _, _, _⟩) E.out rfl rfl rfl ?_); clear E; intro g2 u E0 hb0; have E := Lib.hid E0; clear E0 hb0) | ((with_reducible refine kn_box_func (o := ⟨some 2, _, _, _, _, _⟩) E.out rfl rfl rfl ?_); clear E; intro g2 u E0 hb0; have E := Lib.hid E0; clear E0 hb0) | ((with_reducible refine kn_alloc E.out rfl rfl ?_); clear E; intro g u E0 hb0; have E := Lib.hid E0; clear E0 hb0) | ((with_reducible refine kn_box E.out rfl rfl rfl ?_); clear E; intro g u E0 hb0; have E := Lib.hid E0; clear E0 hb0) | ((with_reducible refine kn_box_int E.out rfl rfl rfl ?_); clear E; intro g u E0 hb0; have E := Lib.hid E0; clear E0 hb0) | ((with_reducible refine kn_box_slice E.out rfl rfl rfl ?_); clear E; intro g u E0 hb0; have E := Lib.hid E0; clear E0 hb0) | ((with_reducible refine kn_box_bool E.out rfl rfl rfl ?_); clear E; intro g u E0 hb0; have E := Lib.hid E0; clear E0 hb0) | ((with_reducible refine kn_box_func E.out rfl rfl rfl ?_); clear E; intro g u E0 hb0; have E := Lib.hid E0; clear E0 hb0))
  refine bodyPost_ret (results_kn E.out rfl _ rfl (by rw [i64s_length]; exact hl8)) rfl ?_
  exact ⟨rfl, E.out.bel⟩

theorem kn_builds {w u : World} {R : List Res} {F : List (World → Prop)} {ops : Array Oper} {rest : List Oper} {o : Oper} {a : Act} {Q : Exit → Act → World → Prop} (E : Kn w R F u) (hgd : o.guard = none) {t e : TypeId} {len : Nat} {parts : Array (Nat × Operand)} (ho : o.op = .buildSlice t len parts) (vs : List Value) (pl : List (Nat × Value)) {m : Nat} {zc : Array Value}
    (hu : Tryd.prog.underlying t = some (.slice e)) (hi : (Tryd.prog.info? e).map (fun i => (i.size, i.zero.map (·.cells))) = some (m, some zc)) (hpos : ¬ len * m = 0) (hsmall : ¬ len * m > 2 ^ 24)
    (hf : Instr.fill (fun i => some (i * m, m)) ((Array.range (len * m)).map (zc[· % zc.size]!)) pl = some vs.toArray)
    (hparts : (parts.map fun (i, x) => (i, a.eval x)).toList = pl)
    (h : ∀ g u', Kn w (.row g e vs :: R) F u' → u.heap.size ≤ g → wpList Tryd.prog ops Q rest (a.put o.dst (.slice (some ⟨g, 0, none⟩) len len)) u') : wpList Tryd.prog ops Q (o :: rest) a u := by
  cases hie : Tryd.prog.info? e with
  | none => simp [hie] at hi
  | some ie =>
    cases hz : ie.zero with
    | none => simp [hie, hz] at hi
    | some z =>
      simp only [hie, hz, Option.map_some, Option.some.injEq, Prod.mk.injEq] at hi
      obtain ⟨rfl, rfl⟩ := hi
      refine wpList_buildSlice hgd t e len parts ho vs.toArray ie z hu hie hz hsmall hpos ?_ (h _ _ (E.new e vs) (Nat.le_refl _))
      rw [hparts]
      exact hf
def tabsP : List (Nat × Value) := [(0, .agg #[.int .i64 (-3), .int .i64 (-6), .int .i64 (-9), .int .i64 (-15), .int .i64 2, .int .i64 5, .int .i64 8, .int .i64 14]), (1, .agg #[.int .i64 (-3), .int .i64 (-7), .int .i64 (-10), .int .i64 (-13), .int .i64 2, .int .i64 6, .int .i64 9, .int .i64 12]), (2, .agg #[.int .i64 (-2), .int .i64 (-5), .int .i64 (-8), .int .i64 (-13), .int .i64 1, .int .i64 4, .int .i64 7, .int .i64 12]), (3, .agg #[.int .i64 (-2), .int .i64 (-4), .int .i64 (-6), .int .i64 (-13), .int .i64 1, .int .i64 3, .int .i64 5, .int .i64 12]), (4, .agg #[.int .i64 (-3), .int .i64 (-6), .int .i64 (-8), .int .i64 (-12), .int .i64 2, .int .i64 5, .int .i64 7, .int .i64 11]), (5, .agg #[.int .i64 (-3), .int .i64 (-7), .int .i64 (-9), .int .i64 (-11), .int .i64 2, .int .i64 6, .int .i64 8, .int .i64 10]), (6, .agg #[.int .i64 (-4), .int .i64 (-7), .int .i64 (-8), .int .i64 (-11), .int .i64 3, .int .i64 6, .int .i64 7, .int .i64 10]), (7, .agg #[.int .i64 (-3), .int .i64 (-5), .int .i64 (-8), .int .i64 (-11), .int .i64 2, .int .i64 4, .int .i64 7, .int .i64 10]), (8, .agg #[.int .i64 (-2), .int .i64 (-6), .int .i64 (-8), .int .i64 (-10), .int .i64 1, .int .i64 5, .int .i64 7, .int .i64 9]), (9, .agg #[.int .i64 (-2), .int .i64 (-5), .int .i64 (-8), .int .i64 (-10), .int .i64 1, .int .i64 4, .int .i64 7, .int .i64 9]), (10, .agg #[.int .i64 (-2), .int .i64 (-4), .int .i64 (-8), .int .i64 (-10), .int .i64 1, .int .i64 3, .int .i64 7, .int .i64 9]), (11, .agg #[.int .i64 (-2), .int .i64 (-5), .int .i64 (-7), .int .i64 (-10), .int .i64 1, .int .i64 4, .int .i64 6, .int .i64 9]), (12, .agg #[.int .i64 (-3), .int .i64 (-4), .int .i64 (-7), .int .i64 (-10), .int .i64 2, .int .i64 3, .int .i64 6, .int .i64 9]), (13, .agg #[.int .i64 (-1), .int .i64 (-2), .int .i64 (-3), .int .i64 (-10), .int .i64 0, .int .i64 1, .int .i64 2, .int .i64 9]), (14, .agg #[.int .i64 (-4), .int .i64 (-6), .int .i64 (-8), .int .i64 (-9), .int .i64 3, .int .i64 5, .int .i64 7, .int .i64 8]), (15, .agg #[.int .i64 (-3), .int .i64 (-5), .int .i64 (-7), .int .i64 (-9), .int .i64 2, .int .i64 4, .int .i64 6, .int .i64 8])]
theorem tabs_info : (Tryd.prog.info? 31).map (fun i => (i.size, i.zero.map (·.cells))) = some (8, some (i64s [0, 0, 0, 0, 0, 0, 0, 0]).toArray) := by kernel_rfl
theorem tabs_fill : Instr.fill (fun i => some (i * 8, 8)) ((Array.range (16 * 8)).map ((i64s [0, 0, 0, 0, 0, 0, 0, 0]).toArray[· % (i64s [0, 0, 0, 0, 0, 0, 0, 0]).toArray.size]!)) tabsP = some (i64s numE).toArray := by kernel_rfl
set_option maxHeartbeats 8000000 in
set_option maxRecDepth 100000 in
theorem rtable_any (n : Int) (w : World) : Calls Tryd.prog 12 #[.int .i64 n] w fun e w' => e = .returned (arr (tabV n)) ∧ Below w.heap.size w w' := by
  have E := Lib.hid (Kn.start w)
  obtain ⟨k, hk⟩ : ∃ k : Nat, n % 16 = (k : Int) := ⟨(n % 16).toNat, by omega⟩
  have hk16 : k < 16 := by omega
  have hT : tabV n = tabE k := by unfold tabV; rw [hk]; rfl
  have hp := Lib.hid (show ((i64s numE).drop (k * 8)).take 8 = i64s (tabE k) from by rw [← i64s_drop, ← i64s_take]; rfl)
  have hl8 := tabE_length k hk16
  rw [hT]
  clear hT
  have hF := Lib.hid tabs_fill
  have hI := Lib.hid tabs_info
  obtain ⟨TP, hTP⟩ : ∃ TP, TP = tabsP := ⟨_, rfl⟩
  have HTP := Lib.hid hTP
  rw [← hTP] at hF
  have hln : Hid ((i64s numE).length = 128) := by rw [i64s_length]; exact numE_length
  clear hTP
  generalize i64s numE = NV at *
  generalize tabE k = T at *
  by_cases hneg : n.tmod 16 < 0
  · have h1 := (tmod_neg n 16 (by omega) hneg).1
    have hkk : wrap64 (n.tmod 16 + 16) = (k : Int) := by rw [wrap64_small _ (by omega) (by omega)]; omega
    clear hk h1
    go_enter Tryd.func12, Tryd.ntmps12
    go_wp2_with (first
      | ((with_reducible refine kn_builds E.out rfl rfl NV TP Tryd.underlying48 hI.out ?_ ?_ hF.out ?_ ?_); (focus (omega)); (focus (omega)); (focus (rw [HTP.out]; simp only [List.map_toArray, List.map_cons, List.map_nil]; rfl)); clear E; intro gg u E0 hg; have E := Lib.hid E0; clear E0 hg)
      | ((with_reducible refine kn_loadv (g := gg) (off := k * 8) E.out rfl rfl ?hx hp.out ?hl ?_); (case hx => rfl); (case hl => rw [i64s_length]; exact hl8))
      | ((with_reducible refine kn_stores (g := g2) (vs := i64s T) E.out rfl rfl rfl rfl rfl ?hl ?h1 ?_); (case hl => exact ⟨rfl, by rw [i64s_length]; exact hl8⟩); (case h1 => exact i64s_one _); clear E; intro u E0; have E := Lib.hid E0; clear E0)
      | ((with_reducible refine kn_load E.out rfl rfl rfl rfl ?_)) | ((with_reducible refine kn_load_if E.out rfl rfl rfl rfl ?_)) | ((with_reducible refine kn_loads E.out rfl rfl rfl ?_ ?_); (focus (first | rfl | (simp only [i64s_length, u8s_length]; first | rfl | assumption | omega)))) | ((with_reducible refine kn_loads_if E.out rfl rfl rfl ?_ ?_); (focus (first | rfl | (simp only [i64s_length, u8s_length]; first | rfl | assumption | omega)))) | ((with_reducible refine kn_store1_int E.out rfl rfl rfl rfl rfl ?_); clear E; intro u E0; have E := Lib.hid E0; clear E0) | ((with_reducible refine kn_store1_slice E.out rfl rfl rfl rfl rfl ?_); clear E; intro u E0; have E := Lib.hid E0; clear E0) | ((with_reducible refine kn_store1_bool E.out rfl rfl rfl rfl rfl ?_); clear E; intro u E0; have E := Lib.hid E0; clear E0) | ((with_reducible refine kn_stores E.out rfl rfl rfl rfl rfl ?_ ?_ ?_); (focus (first | exact ⟨rfl, rfl⟩ | (simp only [i64s_length, u8s_length]; refine ⟨?_, ?_⟩ <;> first | rfl | assumption | omega))); (focus (first | exact i64s_one _ | exact u8s_one _ | simp [Value.oneCell'])); clear E; intro u E0; have E := Lib.hid E0; clear E0) | ((with_reducible refine kn_alloc (o := ⟨some 2, _, _, _, _, _⟩) E.out rfl rfl ?_); clear E; intro g2 u E0 hb0; have E := Lib.hid E0; clear E0 hb0) | ((with_reducible refine kn_box (o := ⟨some 2, _, _, _, _, _⟩) E.out rfl rfl rfl ?_); clear E; intro g2 u E0 hb0; have E := Lib.hid E0; clear E0 hb0) | ((with_reducible refine kn_box_int (o := ⟨some 2, _, _, _, _, _⟩) E.out rfl rfl rfl ?_); clear E; intro g2 u E0 hb0; have E := Lib.hid E0; clear E0 hb0) | ((with_reducible refine kn_box_slice (o := ⟨some 2, _, _, _, _, _⟩) E.out rfl rfl rfl ?_); clear E; intro g2 u E0 hb0; have E := Lib.hid E0; clear E0 hb0) | ((with_reducible refine kn_box_bool (o := ⟨some 2, _, _, _, _, _⟩) E.out rfl rfl rfl ?_); clear E; intro g2 u E0 hb0; have E := Lib.hid E0; clear E0 hb0) | ((with_reducible refine kn_box_func (o := ⟨some 2, _, _, _, _, _⟩) E.out rfl rfl rfl ?_); clear E; intro g2 u E0 hb0; have E := Lib.hid E0; clear E0 hb0) | ((with_reducible refine kn_alloc E.out rfl rfl ?_); clear E; intro g u E0 hb0; have E := Lib.hid E0; clear E0 hb0) | ((with_reducible refine kn_box E.out rfl rfl rfl ?_); clear E; intro g u E0 hb0; have E := Lib.hid E0; clear E0 hb0) | ((with_reducible refine kn_box_int E.out rfl rfl rfl ?_); clear E; intro g u E0 hb0; have E := Lib.hid E0; clear E0 hb0) | ((with_reducible refine kn_box_slice E.out rfl rfl rfl ?_); clear E; intro g u E0 hb0; have E := Lib.hid E0; clear E0 hb0) | ((with_reducible refine kn_box_bool E.out rfl rfl rfl ?_); clear E; intro g u E0 hb0; have E := Lib.hid E0; clear E0 hb0) | ((with_reducible refine kn_box_func E.out rfl rfl rfl ?_); clear E; intro g u E0 hb0; have E := Lib.hid E0; clear E0 hb0))
    refine bodyPost_ret (results_kn E.out rfl _ rfl (by rw [i64s_length]; exact hl8)) rfl ?_
    exact ⟨rfl, E.out.bel⟩
  · have hkk : n.tmod 16 = (k : Int) := by rw [(tmod_pos n 16 (by omega) (by omega)).1]; exact hk
    clear hk hneg
    have hneg : ¬ (k : Int) < 0 := by omega
    go_enter Tryd.func12, Tryd.ntmps12
    go_wp2_with (first
      | ((with_reducible refine kn_builds E.out rfl rfl NV TP Tryd.underlying48 hI.out ?_ ?_ hF.out ?_ ?_); (focus (omega)); (focus (omega)); (focus (rw [HTP.out]; simp only [List.map_toArray, List.map_cons, List.map_nil]; rfl)); clear E; intro gg u E0 hg; have E := Lib.hid E0; clear E0 hg)
      | ((with_reducible refine kn_loadv (g := gg) (off := k * 8) E.out rfl rfl ?hx hp.out ?hl ?_); (case hx => rfl); (case hl => rw [i64s_length]; exact hl8))
      | ((with_reducible refine kn_stores (g := g2) (vs := i64s T) E.out rfl rfl rfl rfl rfl ?hl ?h1 ?_); (case hl => exact ⟨rfl, by rw [i64s_length]; exact hl8⟩); (case h1 => exact i64s_one _); clear E; intro u E0; have E := Lib.hid E0; clear E0)
      | ((with_reducible refine kn_load E.out rfl rfl rfl rfl ?_)) | ((with_reducible refine kn_load_if E.out rfl rfl rfl rfl ?_)) | ((with_reducible refine kn_loads E.out rfl rfl rfl ?_ ?_); (focus (first | rfl | (simp only [i64s_length, u8s_length]; first | rfl | assumption | omega)))) | ((with_reducible refine kn_loads_if E.out rfl rfl rfl ?_ ?_); (focus (first | rfl | (simp only [i64s_length, u8s_length]; first | rfl | assumption | omega)))) | ((with_reducible refine kn_store1_int E.out rfl rfl rfl rfl rfl ?_); clear E; intro u E0; have E := Lib.hid E0; clear E0) | ((with_reducible refine kn_store1_slice E.out rfl rfl rfl rfl rfl ?_); clear E; intro u E0; have E := Lib.hid E0; clear E0) | ((with_reducible refine kn_store1_bool E.out rfl rfl rfl rfl rfl ?_); clear E; intro u E0; have E := Lib.hid E0; clear E0) | ((with_reducible refine kn_stores E.out rfl rfl rfl rfl rfl ?_ ?_ ?_); (focus (first | exact ⟨rfl, rfl⟩ | (simp only [i64s_length, u8s_length]; refine ⟨?_, ?_⟩ <;> first | rfl | assumption | omega))); (focus (first | exact i64s_one _ | exact u8s_one _ | simp [Value.oneCell'])); clear E; intro u E0; have E := Lib.hid E0; clear E0) | ((with_reducible refine kn_alloc (o := ⟨some 2, _, _, _, _, _⟩) E.out rfl rfl ?_); clear E; intro g2 u E0 hb0; have E := Lib.hid E0; clear E0 hb0) | ((with_reducible refine kn_box (o := ⟨some 2, _, _, _, _, _⟩) E.out rfl rfl rfl ?_); clear E; intro g2 u E0 hb0; have E := Lib.hid E0; clear E0 hb0) | ((with_reducible refine kn_box_int (o := ⟨some 2, _, _, _, _, _⟩) E.out rfl rfl rfl ?_); clear E; intro g2 u E0 hb0; have E := Lib.hid E0; clear E0 hb0) | ((with_reducible refine kn_box_slice (o := ⟨some 2, _, _, _, _, _⟩) E.out rfl rfl rfl ?_); clear E; intro g2 u E0 hb0; have E := Lib.hid E0; clear E0 hb0) | ((with_reducible refine kn_box_bool (o := ⟨some 2, _, _, _, _, _⟩) E.out rfl rfl rfl ?_); clear E; intro g2 u E0 hb0; have E := Lib.hid E0; clear E0 hb0) | ((with_reducible refine kn_box_func (o := ⟨some 2, _, _, _, _, _⟩) E.out rfl rfl rfl ?_); clear E; intro g2 u E0 hb0; have E := Lib.hid E0; clear E0 hb0) | ((with_reducible refine kn_alloc E.out rfl rfl ?_); clear E; intro g u E0 hb0; have E := Lib.hid E0; clear E0 hb0) | ((with_reducible refine kn_box E.out rfl rfl rfl ?_); clear E; intro g u E0 hb0; have E := Lib.hid E0; clear E0 hb0) | ((with_reducible refine kn_box_int E.out rfl rfl rfl ?_); clear E; intro g u E0 hb0; have E := Lib.hid E0; clear E0 hb0) | ((with_reducible refine kn_box_slice E.out rfl rfl rfl ?_); clear E; intro g u E0 hb0; have E := Lib.hid E0; clear E0 hb0) | ((with_reducible refine kn_box_bool E.out rfl rfl rfl ?_); clear E; intro g u E0 hb0; have E := Lib.hid E0; clear E0 hb0) | ((with_reducible refine kn_box_func E.out rfl rfl rfl ?_); clear E; intro g u E0 hb0; have E := Lib.hid E0; clear E0 hb0))
    refine bodyPost_ret (results_kn E.out rfl _ rfl (by rw [i64s_length]; exact hl8)) rfl ?_
    exact ⟨rfl, E.out.bel⟩

end Go.Proofs.YtpdpjljfloanfaaDoor
