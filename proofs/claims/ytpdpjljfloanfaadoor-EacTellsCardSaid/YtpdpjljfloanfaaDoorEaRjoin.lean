/- Blocks of one number for each texel of their parts: the document's. -/
import Derived.Test.YtpdpjljfloanfaaDoorEaPart
import Derived.Test.YtpdpjljfloanfaaDoorBcJoin
import Derived.Great.BuildSlice
set_option linter.all false
namespace Go.Proofs.YtpdpjljfloanfaaDoor
open Go.RowKit
open Bi Lv Bc Ea
open Bf (seP seP_length seP_getD seP_gets okW)
open Eo (pos pos_lt pos_pos getN_bit getN_lt' getN_eq G G_bd)

theorem rset8h (A : Option Addr) (c p m N : Nat) (P : Int) (hP : P = (p : Int)) (xs : List Nat) (u : World) (hu : Bs u u.heap.size A 8 xs) (hp : p + m ≤ 64) (hm : m ≤ 16) (hN : N < 2 ^ m) :
    Calls Tryd.prog 27 #[.slice A 8 c, .int .i64 P, .int .i64 (m : Int), .bool true, .int .u64 (N : Int)] u (Laid u (st xs true p m N) 0) := by
  subst hP
  have h2 : 2 ^ m ≤ 2 ^ 16 := Nat.pow_le_pow_right (by omega) hm
  have h := rset_any A 8 c (p : Int) (m : Int) true N xs u hu (by omega) (by omega)
  have eg : getE 8 (p : Int) (m : Int) = 0 := getE_zero (by omega) (by omega)
  have e0 : setE 8 (p : Int) (m : Int) N = 0 := by
    unfold setE
    rw [if_pos eg, if_pos (by rw [Int.toNat_natCast]; exact hN)]
  rw [e0, setV_ok hu.1 e0] at h
  exact h
set_option maxHeartbeats 1000000 in
theorem rin_any (n m : Int) (w : World) : Calls Tryd.prog 26 #[.int .i64 n, .int .i64 m] w fun e w' => e = .returned (.bool (decide (0 ≤ n ∧ n ≤ m))) ∧ w = w' := by
  by_cases h : 0 ≤ n
  · go_enter Tryd.func26, Tryd.ntmps26
    go_wp2
    go_ret
    exact ⟨ret_bool (by rw [Bool.eq_iff_iff]; simp; omega), rfl⟩
  · go_enter Tryd.func26, Tryd.ntmps26
    go_wp2
    go_ret
    exact ⟨ret_bool (by rw [Bool.eq_iff_iff]; simp; omega), rfl⟩
/-- A slice literal of bytes, of whatever operands. -/
theorem kn_buildv {w u : World} {R : List Res} {F : List (World → Prop)} {ops : Array Oper} {rest : List Oper} {o : Oper} {a : Act} {Q : Exit → Act → World → Prop} (E : Kn w R F u) (hgd : o.guard = none) {t e : TypeId} {len : Nat} {parts : Array (Nat × Operand)} (ho : o.op = .buildSlice t len parts) (xs : List Nat)
    (hu : Tryd.prog.underlying t = some (.slice e)) (hsz : (Tryd.prog.info? e).map (·.size) = some 1) (hz : ((Tryd.prog.info? e).bind (·.zero)).isSome = true) (hlen : len = xs.length) (hpos : 0 < len) (hsmall : len ≤ 2 ^ 24)
    (hparts : (parts.map fun (i, x) => (i, a.eval x)).toList = ((u8s xs).zipIdx 0).map fun x => (x.2, x.1))
    (h : ∀ g u', Kn w (.row g e (u8s xs) :: R) F u' → wpList Tryd.prog ops Q rest (a.put o.dst (.slice (some ⟨g, 0, none⟩) len len)) u') : wpList Tryd.prog ops Q (o :: rest) a u := by
  cases hie : Tryd.prog.info? e with
  | none => simp [hie] at hsz
  | some ie =>
    simp only [hie, Option.map_some, Option.some.injEq, Option.bind_some] at hsz hz
    obtain ⟨z, hzz⟩ := Option.isSome_iff_exists.1 hz
    refine wpList_buildSlice hgd t e len parts ho (u8s xs).toArray ie z hu hie hzz (by rw [hsz]; omega) (by rw [hsz]; omega) ?_ (h _ _ (E.new e (u8s xs)))
    rw [hparts, hsz]
    exact Great.fill_flat _ _ (fun v hv => by
      obtain ⟨n, _, rfl⟩ := List.mem_map.1 hv
      rfl) (by simp [hlen, u8s])

set_option maxHeartbeats 4000000 in
set_option maxRecDepth 100000 in
theorem rjoin_far (b t n : Int) (W : List Int) (w : World) (h : ¬ ((0 ≤ b ∧ b ≤ 255) ∧ (0 ≤ t ∧ t ≤ 15) ∧ (0 ≤ n ∧ n ≤ 15))) :
    Calls Tryd.prog 14 #[.int .i64 b, .int .i64 t, .int .i64 n, arr W] w (Laid w [] 1) := by
  have f1 := Lib.hid (fun u => rin_any b 255 u)
  have f2 := Lib.hid (fun u => rin_any t 15 u)
  have f3 := Lib.hid (fun u => rin_any n 15 u)
  by_cases h1 : 0 ≤ b ∧ b ≤ 255
  · rw [decide_eq_true h1] at f1
    by_cases h2 : 0 ≤ t ∧ t ≤ 15
    · have h3 : ¬ (0 ≤ n ∧ n ≤ 15) := fun k => h ⟨h1, h2, k⟩
      rw [decide_eq_true h2] at f2
      rw [decide_eq_false h3] at f3
      clear h h1 h2 h3
      (have E := Lib.hid (Kn.start w); go_enter Tryd.func14, Tryd.ntmps14; go_wp2_with (first | (go_at_call 26; first | (with_reducible refine (f1.out _).mono ?_; rintro e w1 ⟨rfl, rfl⟩) | (with_reducible refine (f2.out _).mono ?_; rintro e w1 ⟨rfl, rfl⟩) | (with_reducible refine (f3.out _).mono ?_; rintro e w1 ⟨rfl, rfl⟩)) | ((with_reducible refine kn_load E.out rfl rfl rfl rfl ?_)) | ((with_reducible refine kn_load_if E.out rfl rfl rfl rfl ?_)) | ((with_reducible refine kn_loads E.out rfl rfl rfl ?_ ?_); (focus (first | rfl | (simp only [i64s_length, u8s_length]; first | rfl | assumption | omega)))) | ((with_reducible refine kn_loads_if E.out rfl rfl rfl ?_ ?_); (focus (first | rfl | (simp only [i64s_length, u8s_length]; first | rfl | assumption | omega)))) | ((with_reducible refine kn_store1_int E.out rfl rfl rfl rfl rfl ?_); clear E; intro u E0; have E := Lib.hid E0; clear E0) | ((with_reducible refine kn_store1_slice E.out rfl rfl rfl rfl rfl ?_); clear E; intro u E0; have E := Lib.hid E0; clear E0) | ((with_reducible refine kn_store1_bool E.out rfl rfl rfl rfl rfl ?_); clear E; intro u E0; have E := Lib.hid E0; clear E0) | ((with_reducible refine kn_stores E.out rfl rfl rfl rfl rfl ?_ ?_ ?_); (focus (first | exact ⟨rfl, rfl⟩ | (simp only [i64s_length, u8s_length]; refine ⟨?_, ?_⟩ <;> first | rfl | assumption | omega))); (focus (first | exact i64s_one _ | exact u8s_one _ | simp [Value.oneCell'])); clear E; intro u E0; have E := Lib.hid E0; clear E0) | ((with_reducible refine kn_alloc (o := ⟨some 7, _, _, _, _, _⟩) E.out rfl rfl ?_); clear E; intro g7 u E0 hb0; have E := Lib.hid E0; clear E0 hb0) | ((with_reducible refine kn_box (o := ⟨some 7, _, _, _, _, _⟩) E.out rfl rfl rfl ?_); clear E; intro g7 u E0 hb0; have E := Lib.hid E0; clear E0 hb0) | ((with_reducible refine kn_box_int (o := ⟨some 7, _, _, _, _, _⟩) E.out rfl rfl rfl ?_); clear E; intro g7 u E0 hb0; have E := Lib.hid E0; clear E0 hb0) | ((with_reducible refine kn_box_slice (o := ⟨some 7, _, _, _, _, _⟩) E.out rfl rfl rfl ?_); clear E; intro g7 u E0 hb0; have E := Lib.hid E0; clear E0 hb0) | ((with_reducible refine kn_box_bool (o := ⟨some 7, _, _, _, _, _⟩) E.out rfl rfl rfl ?_); clear E; intro g7 u E0 hb0; have E := Lib.hid E0; clear E0 hb0) | ((with_reducible refine kn_box_func (o := ⟨some 7, _, _, _, _, _⟩) E.out rfl rfl rfl ?_); clear E; intro g7 u E0 hb0; have E := Lib.hid E0; clear E0 hb0) | ((with_reducible refine kn_alloc E.out rfl rfl ?_); clear E; intro g u E0 hb0; have E := Lib.hid E0; clear E0 hb0) | ((with_reducible refine kn_box E.out rfl rfl rfl ?_); clear E; intro g u E0 hb0; have E := Lib.hid E0; clear E0 hb0) | ((with_reducible refine kn_box_int E.out rfl rfl rfl ?_); clear E; intro g u E0 hb0; have E := Lib.hid E0; clear E0 hb0) | ((with_reducible refine kn_box_slice E.out rfl rfl rfl ?_); clear E; intro g u E0 hb0; have E := Lib.hid E0; clear E0 hb0) | ((with_reducible refine kn_box_bool E.out rfl rfl rfl ?_); clear E; intro g u E0 hb0; have E := Lib.hid E0; clear E0 hb0) | ((with_reducible refine kn_box_func E.out rfl rfl rfl ?_); clear E; intro g u E0 hb0; have E := Lib.hid E0; clear E0 hb0)); go_ret2; exact ⟨none, 0, 0, rfl, ⟨rfl, by simp, fun h => absurd h (by omega)⟩, by omega, by omega, E.out.bel⟩)
    · rw [decide_eq_false h2] at f2
      clear h h1 h2
      (have E := Lib.hid (Kn.start w); go_enter Tryd.func14, Tryd.ntmps14; go_wp2_with (first | (go_at_call 26; first | (with_reducible refine (f1.out _).mono ?_; rintro e w1 ⟨rfl, rfl⟩) | (with_reducible refine (f2.out _).mono ?_; rintro e w1 ⟨rfl, rfl⟩) | (with_reducible refine (f3.out _).mono ?_; rintro e w1 ⟨rfl, rfl⟩)) | ((with_reducible refine kn_load E.out rfl rfl rfl rfl ?_)) | ((with_reducible refine kn_load_if E.out rfl rfl rfl rfl ?_)) | ((with_reducible refine kn_loads E.out rfl rfl rfl ?_ ?_); (focus (first | rfl | (simp only [i64s_length, u8s_length]; first | rfl | assumption | omega)))) | ((with_reducible refine kn_loads_if E.out rfl rfl rfl ?_ ?_); (focus (first | rfl | (simp only [i64s_length, u8s_length]; first | rfl | assumption | omega)))) | ((with_reducible refine kn_store1_int E.out rfl rfl rfl rfl rfl ?_); clear E; intro u E0; have E := Lib.hid E0; clear E0) | ((with_reducible refine kn_store1_slice E.out rfl rfl rfl rfl rfl ?_); clear E; intro u E0; have E := Lib.hid E0; clear E0) | ((with_reducible refine kn_store1_bool E.out rfl rfl rfl rfl rfl ?_); clear E; intro u E0; have E := Lib.hid E0; clear E0) | ((with_reducible refine kn_stores E.out rfl rfl rfl rfl rfl ?_ ?_ ?_); (focus (first | exact ⟨rfl, rfl⟩ | (simp only [i64s_length, u8s_length]; refine ⟨?_, ?_⟩ <;> first | rfl | assumption | omega))); (focus (first | exact i64s_one _ | exact u8s_one _ | simp [Value.oneCell'])); clear E; intro u E0; have E := Lib.hid E0; clear E0) | ((with_reducible refine kn_alloc (o := ⟨some 7, _, _, _, _, _⟩) E.out rfl rfl ?_); clear E; intro g7 u E0 hb0; have E := Lib.hid E0; clear E0 hb0) | ((with_reducible refine kn_box (o := ⟨some 7, _, _, _, _, _⟩) E.out rfl rfl rfl ?_); clear E; intro g7 u E0 hb0; have E := Lib.hid E0; clear E0 hb0) | ((with_reducible refine kn_box_int (o := ⟨some 7, _, _, _, _, _⟩) E.out rfl rfl rfl ?_); clear E; intro g7 u E0 hb0; have E := Lib.hid E0; clear E0 hb0) | ((with_reducible refine kn_box_slice (o := ⟨some 7, _, _, _, _, _⟩) E.out rfl rfl rfl ?_); clear E; intro g7 u E0 hb0; have E := Lib.hid E0; clear E0 hb0) | ((with_reducible refine kn_box_bool (o := ⟨some 7, _, _, _, _, _⟩) E.out rfl rfl rfl ?_); clear E; intro g7 u E0 hb0; have E := Lib.hid E0; clear E0 hb0) | ((with_reducible refine kn_box_func (o := ⟨some 7, _, _, _, _, _⟩) E.out rfl rfl rfl ?_); clear E; intro g7 u E0 hb0; have E := Lib.hid E0; clear E0 hb0) | ((with_reducible refine kn_alloc E.out rfl rfl ?_); clear E; intro g u E0 hb0; have E := Lib.hid E0; clear E0 hb0) | ((with_reducible refine kn_box E.out rfl rfl rfl ?_); clear E; intro g u E0 hb0; have E := Lib.hid E0; clear E0 hb0) | ((with_reducible refine kn_box_int E.out rfl rfl rfl ?_); clear E; intro g u E0 hb0; have E := Lib.hid E0; clear E0 hb0) | ((with_reducible refine kn_box_slice E.out rfl rfl rfl ?_); clear E; intro g u E0 hb0; have E := Lib.hid E0; clear E0 hb0) | ((with_reducible refine kn_box_bool E.out rfl rfl rfl ?_); clear E; intro g u E0 hb0; have E := Lib.hid E0; clear E0 hb0) | ((with_reducible refine kn_box_func E.out rfl rfl rfl ?_); clear E; intro g u E0 hb0; have E := Lib.hid E0; clear E0 hb0)); go_ret2; exact ⟨none, 0, 0, rfl, ⟨rfl, by simp, fun h => absurd h (by omega)⟩, by omega, by omega, E.out.bel⟩)
  · rw [decide_eq_false h1] at f1
    clear h h1
    (have E := Lib.hid (Kn.start w); go_enter Tryd.func14, Tryd.ntmps14; go_wp2_with (first | (go_at_call 26; first | (with_reducible refine (f1.out _).mono ?_; rintro e w1 ⟨rfl, rfl⟩) | (with_reducible refine (f2.out _).mono ?_; rintro e w1 ⟨rfl, rfl⟩) | (with_reducible refine (f3.out _).mono ?_; rintro e w1 ⟨rfl, rfl⟩)) | ((with_reducible refine kn_load E.out rfl rfl rfl rfl ?_)) | ((with_reducible refine kn_load_if E.out rfl rfl rfl rfl ?_)) | ((with_reducible refine kn_loads E.out rfl rfl rfl ?_ ?_); (focus (first | rfl | (simp only [i64s_length, u8s_length]; first | rfl | assumption | omega)))) | ((with_reducible refine kn_loads_if E.out rfl rfl rfl ?_ ?_); (focus (first | rfl | (simp only [i64s_length, u8s_length]; first | rfl | assumption | omega)))) | ((with_reducible refine kn_store1_int E.out rfl rfl rfl rfl rfl ?_); clear E; intro u E0; have E := Lib.hid E0; clear E0) | ((with_reducible refine kn_store1_slice E.out rfl rfl rfl rfl rfl ?_); clear E; intro u E0; have E := Lib.hid E0; clear E0) | ((with_reducible refine kn_store1_bool E.out rfl rfl rfl rfl rfl ?_); clear E; intro u E0; have E := Lib.hid E0; clear E0) | ((with_reducible refine kn_stores E.out rfl rfl rfl rfl rfl ?_ ?_ ?_); (focus (first | exact ⟨rfl, rfl⟩ | (simp only [i64s_length, u8s_length]; refine ⟨?_, ?_⟩ <;> first | rfl | assumption | omega))); (focus (first | exact i64s_one _ | exact u8s_one _ | simp [Value.oneCell'])); clear E; intro u E0; have E := Lib.hid E0; clear E0) | ((with_reducible refine kn_alloc (o := ⟨some 7, _, _, _, _, _⟩) E.out rfl rfl ?_); clear E; intro g7 u E0 hb0; have E := Lib.hid E0; clear E0 hb0) | ((with_reducible refine kn_box (o := ⟨some 7, _, _, _, _, _⟩) E.out rfl rfl rfl ?_); clear E; intro g7 u E0 hb0; have E := Lib.hid E0; clear E0 hb0) | ((with_reducible refine kn_box_int (o := ⟨some 7, _, _, _, _, _⟩) E.out rfl rfl rfl ?_); clear E; intro g7 u E0 hb0; have E := Lib.hid E0; clear E0 hb0) | ((with_reducible refine kn_box_slice (o := ⟨some 7, _, _, _, _, _⟩) E.out rfl rfl rfl ?_); clear E; intro g7 u E0 hb0; have E := Lib.hid E0; clear E0 hb0) | ((with_reducible refine kn_box_bool (o := ⟨some 7, _, _, _, _, _⟩) E.out rfl rfl rfl ?_); clear E; intro g7 u E0 hb0; have E := Lib.hid E0; clear E0 hb0) | ((with_reducible refine kn_box_func (o := ⟨some 7, _, _, _, _, _⟩) E.out rfl rfl rfl ?_); clear E; intro g7 u E0 hb0; have E := Lib.hid E0; clear E0 hb0) | ((with_reducible refine kn_alloc E.out rfl rfl ?_); clear E; intro g u E0 hb0; have E := Lib.hid E0; clear E0 hb0) | ((with_reducible refine kn_box E.out rfl rfl rfl ?_); clear E; intro g u E0 hb0; have E := Lib.hid E0; clear E0 hb0) | ((with_reducible refine kn_box_int E.out rfl rfl rfl ?_); clear E; intro g u E0 hb0; have E := Lib.hid E0; clear E0 hb0) | ((with_reducible refine kn_box_slice E.out rfl rfl rfl ?_); clear E; intro g u E0 hb0; have E := Lib.hid E0; clear E0 hb0) | ((with_reducible refine kn_box_bool E.out rfl rfl rfl ?_); clear E; intro g u E0 hb0; have E := Lib.hid E0; clear E0 hb0) | ((with_reducible refine kn_box_func E.out rfl rfl rfl ?_); clear E; intro g u E0 hb0; have E := Lib.hid E0; clear E0 hb0)); go_ret2; exact ⟨none, 0, 0, rfl, ⟨rfl, by simp, fun h => absurd h (by omega)⟩, by omega, by omega, E.out.bel⟩)
set_option maxHeartbeats 8000000 in
set_option maxRecDepth 100000 in
theorem rjoin_near (b t n : Int) (W : List Int) (w : World) (hb : 0 ≤ b ∧ b ≤ 255) (ht : 0 ≤ t ∧ t ≤ 15) (hn' : 0 ≤ n ∧ n ≤ 15) (hW : W.length = 16) :
    Calls Tryd.prog 14 #[.int .i64 b, .int .i64 t, .int .i64 n, arr W] w (Laid w (jV b t n W) (jE b t n W)) := by
  have E := Lib.hid (Kn.start w)
  have f1 := Lib.hid (fun u => rin_any b 255 u)
  have f2 := Lib.hid (fun u => rin_any t 15 u)
  have f3 := Lib.hid (fun u => rin_any n 15 u)
  rw [decide_eq_true hb] at f1
  rw [decide_eq_true ht] at f2
  rw [decide_eq_true hn'] at f3
  have HOK := Lib.hid (fun (h : ∀ j, j < 16 → 0 ≤ W.getD j 0 ∧ W.getD j 0 < 8) => show jV b t n W = lJ (jG b t n W) 16 ∧ jE b t n W = 0 from ⟨by rw [jV_ok ⟨⟨hb.1, by omega⟩, ⟨ht.1, by omega⟩, ⟨hn'.1, by omega⟩, h⟩, lJ_full]; rfl, jE_ok ⟨⟨hb.1, by omega⟩, ⟨ht.1, by omega⟩, ⟨hn'.1, by omega⟩, h⟩⟩)
  have HNO := Lib.hid (fun (j : Nat) (hj : j < 16) (h : ¬ (0 ≤ W.getD j 0 ∧ W.getD j 0 < 8)) => show jV b t n W = [] ∧ jE b t n W = 1 from ⟨jV_no fun k => h (k.2.2.2 j hj), jE_no fun k => h (k.2.2.2 j hj)⟩)
  have HL0 := lJ_zero b t n W ⟨hb.1, by omega⟩ ⟨ht.1, by omega⟩ ⟨hn'.1, by omega⟩
  have HLS := fun i (hi : i < 16) => lJ_st b t n W i hi
  have HLL := lJ_length (jG b t n W)
  generalize jV b t n W = jv at *
  generalize jE b t n W = je at *
  generalize lJ (jG b t n W) = LL at *
  obtain ⟨bn, rfl⟩ := Int.eq_ofNat_of_zero_le hb.1
  obtain ⟨tn, rfl⟩ := Int.eq_ofNat_of_zero_le ht.1
  obtain ⟨nn, rfl⟩ := Int.eq_ofNat_of_zero_le hn'.1
  have hb2 : bn < 256 := by omega
  have ht2 : tn < 16 := by omega
  have hn2 : nn < 16 := by omega
  simp only [Int.toNat_natCast] at HL0
  clear hb ht hn'
  have S3 := Lib.hid (fun (k : Nat) (v : Nat) (hv : W.getD k 0 = (v : Int)) (hk : k < 16) (hv8 : v < 8) (P : Int) (hP : P = ((16 + 3 * (4 * (k % 4) + k / 4) : Nat) : Int)) (A : Option Addr) (c : Nat) (u : World) (hu : Bs u u.heap.size A 8 (LL k)) => show Calls Tryd.prog 27 #[.slice A 8 c, .int .i64 P, .int .i64 3, .bool true, .int .u64 (v : Int)] u (Laid u (LL (k + 1)) 0) from by
    have h := HLS k hk
    rw [hv, Int.toNat_natCast] at h
    rw [← h]
    have hp := pos_lt hk
    exact rset8h A c (16 + 3 * pos k) 3 v P hP _ u hu (by omega) (by omega) hv8)
  have HLN := Lib.hid HLL
  have hsz : (Tryd.prog.info? 5).map (·.size) = some 1 := by kernel_rfl
  have hzr : ((Tryd.prog.info? 5).bind (·.zero)).isSome = true := by kernel_rfl
  have HL0' := Lib.hid HL0
  have hYl : Hid (∀ x ∈ [bn, 16 * tn + nn, 0, 0, 0, 0, 0, 0], x < 256) := fun x hx => by
    simp only [List.mem_cons, List.not_mem_nil, or_false] at hx
    omega
  have hu1 : IntKind.u8.wrap (bn : Int) = ((bn : Nat) : Int) := by rw [IntKind.wrap_u8]; omega
  have hu2 : IntKind.u8.wrap (16 * (tn : Int) + (nn : Int)) = ((16 * tn + nn : Nat) : Int) := by rw [IntKind.wrap_u8]; omega
  clear HL0 HLS HLL
  go_enter Tryd.func14, Tryd.ntmps14
  go_wp2_with (first
    | (go_at_call 26; first | (with_reducible refine (f1.out _).mono ?_; rintro e w1 ⟨rfl, rfl⟩) | (with_reducible refine (f2.out _).mono ?_; rintro e w1 ⟨rfl, rfl⟩) | (with_reducible refine (f3.out _).mono ?_; rintro e w1 ⟨rfl, rfl⟩))
    | ((with_reducible refine kn_buildv E.out rfl rfl [bn, 16 * tn + nn, 0, 0, 0, 0, 0, 0] Tryd.underlying22 hsz hzr ?_ ?_ ?_ ?_ ?_); (focus (rfl)); (focus (omega)); (focus (omega)); (focus (simp only [List.map_toArray, List.map_cons, List.map_nil]; rfl)); clear E; intro gg u E0; have hB := E0.row_bs (g := gg) hYl.out 8 rfl; rw [HL0'.out] at hB; have E := Lib.hid (((E0.rest gg).rest g7).new_bs hB); clear E0 hB)
    | ((with_reducible refine kn_load E.out rfl rfl rfl rfl ?_)) | ((with_reducible refine kn_load_if E.out rfl rfl rfl rfl ?_)) | ((with_reducible refine kn_loads E.out rfl rfl rfl ?_ ?_); (focus (first | rfl | (simp only [i64s_length, u8s_length]; first | rfl | assumption | omega)))) | ((with_reducible refine kn_loads_if E.out rfl rfl rfl ?_ ?_); (focus (first | rfl | (simp only [i64s_length, u8s_length]; first | rfl | assumption | omega)))) | ((with_reducible refine kn_store1_int E.out rfl rfl rfl rfl rfl ?_); clear E; intro u E0; have E := Lib.hid E0; clear E0) | ((with_reducible refine kn_store1_slice E.out rfl rfl rfl rfl rfl ?_); clear E; intro u E0; have E := Lib.hid E0; clear E0) | ((with_reducible refine kn_store1_bool E.out rfl rfl rfl rfl rfl ?_); clear E; intro u E0; have E := Lib.hid E0; clear E0) | ((with_reducible refine kn_stores E.out rfl rfl rfl rfl rfl ?_ ?_ ?_); (focus (first | exact ⟨rfl, rfl⟩ | (simp only [i64s_length, u8s_length]; refine ⟨?_, ?_⟩ <;> first | rfl | assumption | omega))); (focus (first | exact i64s_one _ | exact u8s_one _ | simp [Value.oneCell'])); clear E; intro u E0; have E := Lib.hid E0; clear E0) | ((with_reducible refine kn_alloc (o := ⟨some 7, _, _, _, _, _⟩) E.out rfl rfl ?_); clear E; intro g7 u E0 hb0; have E := Lib.hid E0; clear E0 hb0) | ((with_reducible refine kn_box (o := ⟨some 7, _, _, _, _, _⟩) E.out rfl rfl rfl ?_); clear E; intro g7 u E0 hb0; have E := Lib.hid E0; clear E0 hb0) | ((with_reducible refine kn_box_int (o := ⟨some 7, _, _, _, _, _⟩) E.out rfl rfl rfl ?_); clear E; intro g7 u E0 hb0; have E := Lib.hid E0; clear E0 hb0) | ((with_reducible refine kn_box_slice (o := ⟨some 7, _, _, _, _, _⟩) E.out rfl rfl rfl ?_); clear E; intro g7 u E0 hb0; have E := Lib.hid E0; clear E0 hb0) | ((with_reducible refine kn_box_bool (o := ⟨some 7, _, _, _, _, _⟩) E.out rfl rfl rfl ?_); clear E; intro g7 u E0 hb0; have E := Lib.hid E0; clear E0 hb0) | ((with_reducible refine kn_box_func (o := ⟨some 7, _, _, _, _, _⟩) E.out rfl rfl rfl ?_); clear E; intro g7 u E0 hb0; have E := Lib.hid E0; clear E0 hb0) | ((with_reducible refine kn_alloc E.out rfl rfl ?_); clear E; intro g u E0 hb0; have E := Lib.hid E0; clear E0 hb0) | ((with_reducible refine kn_box E.out rfl rfl rfl ?_); clear E; intro g u E0 hb0; have E := Lib.hid E0; clear E0 hb0) | ((with_reducible refine kn_box_int E.out rfl rfl rfl ?_); clear E; intro g u E0 hb0; have E := Lib.hid E0; clear E0 hb0) | ((with_reducible refine kn_box_slice E.out rfl rfl rfl ?_); clear E; intro g u E0 hb0; have E := Lib.hid E0; clear E0 hb0) | ((with_reducible refine kn_box_bool E.out rfl rfl rfl ?_); clear E; intro g u E0 hb0; have E := Lib.hid E0; clear E0 hb0) | ((with_reducible refine kn_box_func E.out rfl rfl rfl ?_); clear E; intro g u E0 hb0; have E := Lib.hid E0; clear E0 hb0))
  go_loopw [11, 10] (fun i s wr => ∃ (k : Nat) (A3 : Option Addr) (c3 : Nat), k ≤ 16 ∧ i = .int .i64 k ∧ s = .slice A3 8 c3 ∧ (8 ≤ c3 ∧ c3 ≤ 9223372036854775807) ∧ (∀ j, j < k → 0 ≤ W.getD j 0 ∧ W.getD j 0 < 8) ∧ Hid (Kn w [] [bsF A3 8 (LL k), rowF g7 25 (i64s W)] wr)) (fun i _ _ => 16 - (intOf i).toNat)
  case atStart => exact ⟨0, _, _, by omega, rfl, rfl, ⟨by omega, by omega⟩, fun j hj => absurd hj (by omega), E.out.part _ _ (List.Sublist.refl _) (by simp)⟩
  case round =>
    clear E f1 f2 f3 hu1 hu2
    obtain ⟨k, A3, c3, hk, rfl, rfl, hc3, hall, E⟩ := hrel
    by_cases hlt : k < 16
    · have hk16 : (k : Int) < 16 := by omega
      by_cases hgood : 0 ≤ W.getD k 0 ∧ W.getD k 0 < 8
      · have hall' := Lib.hid (show ∀ j, j < k + 1 → 0 ≤ W.getD j 0 ∧ W.getD j 0 < 8 from fun j hj => by
          rcases Nat.lt_or_ge j k with h | h
          · exact hall j h
          · obtain rfl : j = k := by omega
            exact hgood)
        obtain ⟨v, hv⟩ : ∃ v : Nat, W.getD k 0 = (v : Int) := ⟨(W.getD k 0).toNat, by omega⟩
        have hv8 : v < 8 := by omega
        have f4 := Lib.hid (fun u => rin_any (v : Int) 7 u)
        rw [decide_eq_true (show 0 ≤ (v : Int) ∧ (v : Int) ≤ 7 by omega)] at f4
        have HV := Lib.hid hv
        have S := Lib.hid (S3.out k v hv hlt hv8)
        have hLn := HLN.out (k + 1)
        clear hv hgood hall S3 HOK HNO HLN
        go_wp2_with (first
          | ((with_reducible refine kn_loadi (g := g7) (i := k) E.out rfl rfl rfl ?hi ?_); (case hi => omega); rw [HV.out])
          | (go_at_call 26; refine (f4.out _).mono ?_; rintro e w1 ⟨rfl, rfl⟩)
          | (go_at_call 27; refine (S.out _ (by omega) _ _ _ (E.out.bs (by simp))).mono ?_; rintro e w1 ⟨A4, n4, c4, rfl, hB1, hn4, hc4, hb⟩; obtain rfl : n4 = 8 := hB1.1.symm.trans hLn; have E1 := Lib.hid (E.out.later hb); clear hb E; have E := E1; clear E1; have E1 := Lib.hid (E.out.new_bs hB1); clear E hB1; have E := E1; clear E1)
          | ((with_reducible refine kn_load E.out rfl rfl rfl rfl ?_)) | ((with_reducible refine kn_load_if E.out rfl rfl rfl rfl ?_)) | ((with_reducible refine kn_loads E.out rfl rfl rfl ?_ ?_); (focus (first | rfl | (simp only [i64s_length, u8s_length]; first | rfl | assumption | omega)))) | ((with_reducible refine kn_loads_if E.out rfl rfl rfl ?_ ?_); (focus (first | rfl | (simp only [i64s_length, u8s_length]; first | rfl | assumption | omega)))) | ((with_reducible refine kn_store1_int E.out rfl rfl rfl rfl rfl ?_); clear E; intro u E0; have E := Lib.hid E0; clear E0) | ((with_reducible refine kn_store1_slice E.out rfl rfl rfl rfl rfl ?_); clear E; intro u E0; have E := Lib.hid E0; clear E0) | ((with_reducible refine kn_store1_bool E.out rfl rfl rfl rfl rfl ?_); clear E; intro u E0; have E := Lib.hid E0; clear E0) | ((with_reducible refine kn_stores E.out rfl rfl rfl rfl rfl ?_ ?_ ?_); (focus (first | exact ⟨rfl, rfl⟩ | (simp only [i64s_length, u8s_length]; refine ⟨?_, ?_⟩ <;> first | rfl | assumption | omega))); (focus (first | exact i64s_one _ | exact u8s_one _ | simp [Value.oneCell'])); clear E; intro u E0; have E := Lib.hid E0; clear E0) | ((with_reducible refine kn_alloc E.out rfl rfl ?_); clear E; intro g u E0 hb0; have E := Lib.hid E0; clear E0 hb0) | ((with_reducible refine kn_box E.out rfl rfl rfl ?_); clear E; intro g u E0 hb0; have E := Lib.hid E0; clear E0 hb0) | ((with_reducible refine kn_box_int E.out rfl rfl rfl ?_); clear E; intro g u E0 hb0; have E := Lib.hid E0; clear E0 hb0) | ((with_reducible refine kn_box_slice E.out rfl rfl rfl ?_); clear E; intro g u E0 hb0; have E := Lib.hid E0; clear E0 hb0) | ((with_reducible refine kn_box_bool E.out rfl rfl rfl ?_); clear E; intro g u E0 hb0; have E := Lib.hid E0; clear E0 hb0) | ((with_reducible refine kn_box_func E.out rfl rfl rfl ?_); clear E; intro g u E0 hb0; have E := Lib.hid E0; clear E0 hb0))
        go_roundw
        case rel => exact ⟨k + 1, A4, c4, by omega, by go_num, rfl, ⟨hn4, hc4⟩, hall'.out, E.out.part _ _ (List.Sublist.refl _) (by simp)⟩
        case measure => simp [intOf]; omega
      · have hno := Lib.hid (HNO.out k hlt hgood)
        obtain ⟨v, hv⟩ : ∃ v : Int, W.getD k 0 = v := ⟨_, rfl⟩
        rw [hv] at hgood
        have f4 := Lib.hid (fun u => rin_any v 7 u)
        rw [decide_eq_false (show ¬ (0 ≤ v ∧ v ≤ 7) by omega)] at f4
        have HV := Lib.hid hv
        clear hv hall S3 HOK HNO HLN hgood
        go_wp2_with (first
          | ((with_reducible refine kn_loadi (g := g7) (i := k) E.out rfl rfl rfl ?hi ?_); (case hi => omega); rw [HV.out])
          | (go_at_call 26; refine (f4.out _).mono ?_; rintro e w1 ⟨rfl, rfl⟩)
          | ((with_reducible refine kn_load E.out rfl rfl rfl rfl ?_)) | ((with_reducible refine kn_load_if E.out rfl rfl rfl rfl ?_)) | ((with_reducible refine kn_loads E.out rfl rfl rfl ?_ ?_); (focus (first | rfl | (simp only [i64s_length, u8s_length]; first | rfl | assumption | omega)))) | ((with_reducible refine kn_loads_if E.out rfl rfl rfl ?_ ?_); (focus (first | rfl | (simp only [i64s_length, u8s_length]; first | rfl | assumption | omega)))) | ((with_reducible refine kn_store1_int E.out rfl rfl rfl rfl rfl ?_); clear E; intro u E0; have E := Lib.hid E0; clear E0) | ((with_reducible refine kn_store1_slice E.out rfl rfl rfl rfl rfl ?_); clear E; intro u E0; have E := Lib.hid E0; clear E0) | ((with_reducible refine kn_store1_bool E.out rfl rfl rfl rfl rfl ?_); clear E; intro u E0; have E := Lib.hid E0; clear E0) | ((with_reducible refine kn_stores E.out rfl rfl rfl rfl rfl ?_ ?_ ?_); (focus (first | exact ⟨rfl, rfl⟩ | (simp only [i64s_length, u8s_length]; refine ⟨?_, ?_⟩ <;> first | rfl | assumption | omega))); (focus (first | exact i64s_one _ | exact u8s_one _ | simp [Value.oneCell'])); clear E; intro u E0; have E := Lib.hid E0; clear E0) | ((with_reducible refine kn_alloc E.out rfl rfl ?_); clear E; intro g u E0 hb0; have E := Lib.hid E0; clear E0 hb0) | ((with_reducible refine kn_box E.out rfl rfl rfl ?_); clear E; intro g u E0 hb0; have E := Lib.hid E0; clear E0 hb0) | ((with_reducible refine kn_box_int E.out rfl rfl rfl ?_); clear E; intro g u E0 hb0; have E := Lib.hid E0; clear E0 hb0) | ((with_reducible refine kn_box_slice E.out rfl rfl rfl ?_); clear E; intro g u E0 hb0; have E := Lib.hid E0; clear E0 hb0) | ((with_reducible refine kn_box_bool E.out rfl rfl rfl ?_); clear E; intro g u E0 hb0; have E := Lib.hid E0; clear E0 hb0) | ((with_reducible refine kn_box_func E.out rfl rfl rfl ?_); clear E; intro g u E0 hb0; have E := Lib.hid E0; clear E0 hb0))
        go_ret2
        rw [hno.out.1, hno.out.2]
        exact ⟨none, 0, 0, rfl, ⟨rfl, by simp, fun h => absurd h (by omega)⟩, by omega, by omega, E.out.bel⟩
    · obtain rfl : k = 16 := by omega
      have hok := Lib.hid (HOK.out hall)
      clear hall S3 HOK HNO HLN
      go_wp2_with (first | ((with_reducible refine kn_load E.out rfl rfl rfl rfl ?_)) | ((with_reducible refine kn_load_if E.out rfl rfl rfl rfl ?_)) | ((with_reducible refine kn_loads E.out rfl rfl rfl ?_ ?_); (focus (first | rfl | (simp only [i64s_length, u8s_length]; first | rfl | assumption | omega)))) | ((with_reducible refine kn_loads_if E.out rfl rfl rfl ?_ ?_); (focus (first | rfl | (simp only [i64s_length, u8s_length]; first | rfl | assumption | omega)))) | ((with_reducible refine kn_store1_int E.out rfl rfl rfl rfl rfl ?_); clear E; intro u E0; have E := Lib.hid E0; clear E0) | ((with_reducible refine kn_store1_slice E.out rfl rfl rfl rfl rfl ?_); clear E; intro u E0; have E := Lib.hid E0; clear E0) | ((with_reducible refine kn_store1_bool E.out rfl rfl rfl rfl rfl ?_); clear E; intro u E0; have E := Lib.hid E0; clear E0) | ((with_reducible refine kn_stores E.out rfl rfl rfl rfl rfl ?_ ?_ ?_); (focus (first | exact ⟨rfl, rfl⟩ | (simp only [i64s_length, u8s_length]; refine ⟨?_, ?_⟩ <;> first | rfl | assumption | omega))); (focus (first | exact i64s_one _ | exact u8s_one _ | simp [Value.oneCell'])); clear E; intro u E0; have E := Lib.hid E0; clear E0) | ((with_reducible refine kn_alloc E.out rfl rfl ?_); clear E; intro g u E0 hb0; have E := Lib.hid E0; clear E0 hb0) | ((with_reducible refine kn_box E.out rfl rfl rfl ?_); clear E; intro g u E0 hb0; have E := Lib.hid E0; clear E0 hb0) | ((with_reducible refine kn_box_int E.out rfl rfl rfl ?_); clear E; intro g u E0 hb0; have E := Lib.hid E0; clear E0 hb0) | ((with_reducible refine kn_box_slice E.out rfl rfl rfl ?_); clear E; intro g u E0 hb0; have E := Lib.hid E0; clear E0 hb0) | ((with_reducible refine kn_box_bool E.out rfl rfl rfl ?_); clear E; intro g u E0 hb0; have E := Lib.hid E0; clear E0 hb0) | ((with_reducible refine kn_box_func E.out rfl rfl rfl ?_); clear E; intro g u E0 hb0; have E := Lib.hid E0; clear E0 hb0))
      go_ret2
      rw [hok.out.1, hok.out.2]
      exact ⟨A3, 8, c3, rfl, E.out.bs (by simp), hc3.1, hc3.2, E.out.bel⟩
theorem erjoin_any (b t n : Int) (W : List Int) (w : World) (hW : W.length = 16) :
    Calls Tryd.prog 14 #[.int .i64 b, .int .i64 t, .int .i64 n, arr W] w (Laid w (jV b t n W) (jE b t n W)) := by
  by_cases h : (0 ≤ b ∧ b ≤ 255) ∧ (0 ≤ t ∧ t ≤ 15) ∧ (0 ≤ n ∧ n ≤ 15)
  · exact rjoin_near b t n W w h.1 h.2.1 h.2.2 hW
  · have h' : ¬ okJ b t n W := fun k => h ⟨⟨k.1.1, by have := k.1.2; omega⟩, ⟨k.2.1.1, by have := k.2.1.2; omega⟩, ⟨k.2.2.1.1, by have := k.2.2.1.2; omega⟩⟩
    rw [jV_no h', jE_no h']
    exact rjoin_far b t n W w h
end Go.Proofs.YtpdpjljfloanfaaDoor
