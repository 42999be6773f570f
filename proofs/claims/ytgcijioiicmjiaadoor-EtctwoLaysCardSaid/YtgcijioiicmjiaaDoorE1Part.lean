/- A block's parts, the program's. -/
import Derived.Test.YtgcijioiicmjiaaDoorE1Tab
import Derived.Test.YtgcijioiicmjiaaDoorG4
set_option linter.all false
namespace Go.Proofs.YtgcijioiicmjiaaDoor
open Go.RowKit
open Bi Lv Eo

theorem results_kn2i {w u : World} {R : List Res} {F : List (World → Prop)} (E : Kn w R F u) {fn : Func} {p q : Tmp} {ty : TypeId} (h : fn.results = #[.cell p ty, .tmp q]) (tmps : Array Value) {g : Nat} (hp : tmps.getD p undef = .pointer (some ⟨g, 0, none⟩)) {t : TypeId} {d f : Bool} {Z : List Int} [Sees R F g t (blk d f Z)] [A : Aggr ty 26] (hZ : Z.length = 24) :
    (results fn tmps).run Tryd.prog u = .ok (.tuple #[.agg (blk d f Z).toArray, tmps.getD q undef]) u := results_kn2 E h tmps hp (blk_length (by omega))

/-- The closure that takes a field. -/
theorem take10 {w u : World} {R : List Res} {F : List (World → Prop)} (E0 : Kn w R F u) (gb : Nat) (A : Option Addr) (c : Nat) (xs : List Nat) (P M : Int) (p m : Nat) (hP : P = (p : Int)) (hM : M = (m : Int)) [S : Sees R F gb 22 [.slice A 8 c]] (hx : bsF A 8 xs ∈ F) (hm : m ≤ 16) (hp : p + m ≤ 64) :
    Calls Tryd.prog 47 #[.int .i64 P, .int .i64 M, .pointer (some ⟨gb, 0, none⟩)] u fun e u1 => e = .returned (.int .i64 (G xs p m)) ∧ Kn w R F u1 := by
  subst hP hM
  have E := Lib.hid E0
  have hL := Lib.hid (fun (u : World) (hu : Bs u u.heap.size A 8 xs) => high_ok A 8 c p m xs u hu (by omega) (by omega) (by omega))
  have hl := getN_lt' xs p m
  have h16 : 2 ^ m ≤ 2 ^ 16 := Nat.pow_le_pow_right (by omega) hm
  unfold G
  clear E0
  generalize getN xs true p m = N at *
  go_enter Tryd.func47, Tryd.ntmps47
  go_wp2_with (first
    | (go_at_call 48; refine (hL.out _ (E.out.bs hx)).mono ?_; clear hL; rintro e w1 ⟨rfl, hb⟩; have E1 := Lib.hid (E.out.later hb); clear hb E; have E := E1; clear E1)
    | ((with_reducible refine kn_load (g := gb) (i := 0) E.out rfl rfl rfl rfl ?_))
    | ((with_reducible refine kn_load E.out rfl rfl rfl rfl ?_)) | ((with_reducible refine kn_load_if E.out rfl rfl rfl rfl ?_)) | ((with_reducible refine kn_loads E.out rfl rfl rfl ?_ ?_); (focus (first | rfl | (simp only [i64s_length, u8s_length]; first | rfl | assumption | omega)))) | ((with_reducible refine kn_loads_if E.out rfl rfl rfl ?_ ?_); (focus (first | rfl | (simp only [i64s_length, u8s_length]; first | rfl | assumption | omega)))) | ((with_reducible refine kn_stores E.out rfl rfl rfl rfl rfl ?_ ?_ ?_); (focus (first | exact ⟨rfl, rfl⟩ | (simp only [i64s_length, u8s_length]; refine ⟨?_, ?_⟩ <;> first | rfl | assumption | omega))); (focus (first | exact i64s_one _ | exact u8s_one _ | simp [Value.oneCell'])); clear E; intro u E0; have E := Lib.hid E0; clear E0))
  go_ret
  exact ⟨rfl, E.out⟩

set_option maxHeartbeats 2000000 in
set_option maxRecDepth 100000 in
theorem parts_no (A : Option Addr) (n c : Nat) (w : World) (hn : n ≠ 8) (_ : n ≤ 9223372036854775807) :
    Calls Tryd.prog 21 #[.slice A n c] w fun e w' => e = .returned (.tuple #[.agg (blk false false z24).toArray, .int .i64 1]) ∧ Below w.heap.size w w' := by
  have E := Lib.hid (Kn.start w)
  have hn' : ¬ (n : Int) = 8 := by omega
  have hz := Lib.hid z24_length
  go_enter Tryd.func21, Tryd.ntmps21
  go_wp2_with (first
    | ((with_reducible refine kn_bputall (d' := false) (f' := false) (Z' := z24) E.out rfl rfl rfl rfl ?hy ?h1 ?h2 ?_); (case hy => rfl); (case h1 => exact hz.out); (case h2 => exact hz.out); clear E; intro u E0; have E := Lib.hid E0; clear E0)
    | ((with_reducible refine kn_load E.out rfl rfl rfl rfl ?_)) | ((with_reducible refine kn_load_if E.out rfl rfl rfl rfl ?_)) | ((with_reducible refine kn_loads E.out rfl rfl rfl ?_ ?_); (focus (first | rfl | (simp only [i64s_length, u8s_length]; first | rfl | assumption | omega)))) | ((with_reducible refine kn_loads_if E.out rfl rfl rfl ?_ ?_); (focus (first | rfl | (simp only [i64s_length, u8s_length]; first | rfl | assumption | omega)))) | ((with_reducible refine kn_stores E.out rfl rfl rfl rfl rfl ?_ ?_ ?_); (focus (first | exact ⟨rfl, rfl⟩ | (simp only [i64s_length, u8s_length]; refine ⟨?_, ?_⟩ <;> first | rfl | assumption | omega))); (focus (first | exact i64s_one _ | exact u8s_one _ | simp [Value.oneCell'])); clear E; intro u E0; have E := Lib.hid E0; clear E0) | ((with_reducible refine kn_alloc (o := ⟨some 1, _, _, _, _, _⟩) E.out rfl rfl ?_); clear E; intro g1 u E0 hb0; have E := Lib.hid E0; clear E0 hb0) | ((with_reducible refine kn_box (o := ⟨some 1, _, _, _, _, _⟩) E.out rfl rfl rfl ?_); clear E; intro g1 u E0 hb0; have E := Lib.hid E0; clear E0 hb0) | ((with_reducible refine kn_box_int (o := ⟨some 1, _, _, _, _, _⟩) E.out rfl rfl rfl ?_); clear E; intro g1 u E0 hb0; have E := Lib.hid E0; clear E0 hb0) | ((with_reducible refine kn_box_slice (o := ⟨some 1, _, _, _, _, _⟩) E.out rfl rfl rfl ?_); clear E; intro g1 u E0 hb0; have E := Lib.hid E0; clear E0 hb0) | ((with_reducible refine kn_box_bool (o := ⟨some 1, _, _, _, _, _⟩) E.out rfl rfl rfl ?_); clear E; intro g1 u E0 hb0; have E := Lib.hid E0; clear E0 hb0) | ((with_reducible refine kn_box_func (o := ⟨some 1, _, _, _, _, _⟩) E.out rfl rfl rfl ?_); clear E; intro g1 u E0 hb0; have E := Lib.hid E0; clear E0 hb0) | ((with_reducible refine kn_alloc (o := ⟨some 2, _, _, _, _, _⟩) E.out rfl rfl ?_); clear E; intro g2 u E0 hb0; have E := Lib.hid E0; clear E0 hb0) | ((with_reducible refine kn_box (o := ⟨some 2, _, _, _, _, _⟩) E.out rfl rfl rfl ?_); clear E; intro g2 u E0 hb0; have E := Lib.hid E0; clear E0 hb0) | ((with_reducible refine kn_box_int (o := ⟨some 2, _, _, _, _, _⟩) E.out rfl rfl rfl ?_); clear E; intro g2 u E0 hb0; have E := Lib.hid E0; clear E0 hb0) | ((with_reducible refine kn_box_slice (o := ⟨some 2, _, _, _, _, _⟩) E.out rfl rfl rfl ?_); clear E; intro g2 u E0 hb0; have E := Lib.hid E0; clear E0 hb0) | ((with_reducible refine kn_box_bool (o := ⟨some 2, _, _, _, _, _⟩) E.out rfl rfl rfl ?_); clear E; intro g2 u E0 hb0; have E := Lib.hid E0; clear E0 hb0) | ((with_reducible refine kn_box_func (o := ⟨some 2, _, _, _, _, _⟩) E.out rfl rfl rfl ?_); clear E; intro g2 u E0 hb0; have E := Lib.hid E0; clear E0 hb0))
  refine bodyPost_ret (results_kn2i E.out rfl _ rfl hz.out) rfl ?_
  exact ⟨rfl, E.out.bel⟩

/-- In a drawn region that writes into a block: its first truth stays. -/
theorem yield_bd {w : World} {ops : Array Oper} {o : Oper} {a : Act} {d f : Bool} {g : Nat} {t ty : TypeId} {x : Operand} (hw : Region.wanted o (yielded ops a.tmps) = true) (ho : o.op = .load ty x) (hx : a.eval x = .pointer (some ⟨g, 0, none⟩)) [Scal ty] :
    YieldsIf Tryd.prog ops (fun u => ∃ Z, Kn w [.row g t (blk d f Z)] [] u) o (.bool d) a :=
  .inl ⟨hw, fun u ⟨Z, E⟩ => by
    unfold execOp
    have hr : (loadVar ty ⟨g, 0, none⟩).run Tryd.prog u = .ok (.bool d) u := run_loadVar_kn1 (i := 0) (vs := blk d f Z) E rfl
    simp only [ho, hx, Instr.loadAt, Instr.sureAddr, Sem.run_bind, Sem.run_pure, Result.andThen_ok, hr]⟩
theorem and1 (v : Int) : bits .and .i64 v 1 = v % 2 := by
  have h := mask_any v 1 (by omega)
  rw [show (2 : Int) ^ 1 = 2 from rfl, wrap64_small 2 (by omega) (by omega), show (2 : Int) - 1 = 1 from rfl, wrap64_small 1 (by omega) (by omega)] at h
  exact h
theorem two_bits (H1 H2 q a b : Nat) (h1 : H1 / 2 ^ q % 2 = a) (h2 : H2 / 2 ^ q % 2 = b) :
    bits .or .i64 (IntKind.i64.wrap (bits .and .i64 ((H1 : Int) / 2 ^ q) 1 * 2)) (bits .and .i64 ((H2 : Int) / 2 ^ q) 1) = 2 * (a : Int) + (b : Int) := by
  have e (H : Nat) : (H : Int) / 2 ^ q % 2 = ((H / 2 ^ q % 2 : Nat) : Int) := by simp
  rw [and1, and1, e, e, h1, h2]
  have ha : a < 2 := by omega
  have hb : b < 2 := by omega
  rw [show IntKind.i64.wrap ((a : Int) * 2) = ((a * 2 : Nat) : Int) from by rw [IntKind.wrap_i64]; omega, i64_or_nat _ _ (by omega) (by omega)]
  obtain rfl | rfl : a = 0 ∨ a = 1 := by omega
  all_goals
    obtain rfl | rfl : b = 0 ∨ b = 1 := by omega
    all_goals rfl
set_option maxHeartbeats 8000000 in
set_option maxRecDepth 100000 in
theorem parts_ok (A : Option Addr) (c : Nat) (xs : List Nat) (w : World) (h : Bs w w.heap.size A 8 xs) :
    Calls Tryd.prog 21 #[.slice A 8 c] w fun e w' => e = .returned (.tuple #[.agg (blk (pD xs) (pF xs) (pZ xs)).toArray, .int .i64 0]) ∧ Below w.heap.size w w' := by
  have E := Lib.hid ((Kn.start w).arg_bs h)
  have hD := Lib.hid (pD_G xs)
  have hF := Lib.hid (pF_G xs)
  have hb2 := built_b2
  have hz := Lib.hid z24_length
  have hW := Lib.hid (fun u => widths_any (pD xs) u)
  have hLn := Lib.hid (pP_length xs)
  have h0 := Lib.hid (pP_zero xs)
  have hPair := Lib.hid (pP_pair xs)
  have hMid := Lib.hid (pP_mid xs)
  have hOne := Lib.hid (pP_one xs)
  have hVa := Lib.hid (val_a xs)
  have hVb := Lib.hid (val_b xs)
  have hVt := Lib.hid (val_t xs)
  have hVw := Lib.hid (val_w xs)
  have hw1 := w1_bd (pD xs)
  have hw2 := w2_bd (pD xs)
  have hws := w_sum (pD xs)
  have hGb := Lib.hid (G_bd xs)
  have hSg := Lib.hid (fun n u => signed_any n (pD xs) u)
  have hPt := Lib.hid (part_bit xs)
  rw [show pZ xs = pP xs (sN 24) from rfl]
  clear h
  obtain ⟨wa, hwa⟩ : ∃ a, w1 (pD xs) = a := ⟨_, rfl⟩
  obtain ⟨wb, hwb⟩ : ∃ a, w2 (pD xs) = a := ⟨_, rfl⟩
  rw [hwa] at hW hVa hVb hw1 hws
  rw [hwb] at hW hVb hw2 hws
  clear hwa hwb
  generalize pD xs = D at *
  generalize pF xs = F at *
  generalize pP xs = PP at *
  generalize val xs = V at *
  go_enter Tryd.func21, Tryd.ntmps21
  go_wp2_with (first
    | (go_at_call 47; (with_reducible refine (take10 E.out g1 A c xs 30 1 30 1 ?h1 ?h2 ?h3 ?h4 ?h5).mono ?_); (case h1 => first | rfl | omega); (case h2 => first | rfl | omega); (case h3 => simp); (case h4 => omega); (case h5 => omega); rintro e w1 ⟨rfl, E0⟩; clear E; have E := Lib.hid E0; clear E0)
    | (go_at_call 47; (with_reducible refine (take10 E.out g1 A c xs 31 1 31 1 ?h1 ?h2 ?h3 ?h4 ?h5).mono ?_); (case h1 => first | rfl | omega); (case h2 => first | rfl | omega); (case h3 => simp); (case h4 => omega); (case h5 => omega); rintro e w1 ⟨rfl, E0⟩; clear E; have E := Lib.hid E0; clear E0)
    | (go_at_call 49; simp only [hD.out, hF.out] at E ⊢; refine (hW.out _).mono ?_; clear hW; rintro e w1 ⟨rfl, rfl⟩)
    | ((with_reducible refine kn_bputall E.out rfl rfl rfl rfl rfl ?h1 ?h2 ?_); (case h1 => exact hz.out); (case h2 => exact hz.out); clear E; intro u E0; have E := Lib.hid E0; clear E0)
    | ((with_reducible refine kn_bd (g := g5) E.out rfl rfl rfl ?_))
    | ((with_reducible refine kn_load E.out rfl rfl rfl rfl ?_)) | ((with_reducible refine kn_load_if E.out rfl rfl rfl rfl ?_)) | ((with_reducible refine kn_loads E.out rfl rfl rfl ?_ ?_); (focus (first | rfl | (simp only [i64s_length, u8s_length]; first | rfl | assumption | omega)))) | ((with_reducible refine kn_loads_if E.out rfl rfl rfl ?_ ?_); (focus (first | rfl | (simp only [i64s_length, u8s_length]; first | rfl | assumption | omega)))) | ((with_reducible refine kn_stores E.out rfl rfl rfl rfl rfl ?_ ?_ ?_); (focus (first | exact ⟨rfl, rfl⟩ | (simp only [i64s_length, u8s_length]; refine ⟨?_, ?_⟩ <;> first | rfl | assumption | omega))); (focus (first | exact i64s_one _ | exact u8s_one _ | simp [Value.oneCell'])); clear E; intro u E0; have E := Lib.hid E0; clear E0) | ((with_reducible refine kn_alloc (o := ⟨some 1, _, _, _, _, _⟩) E.out rfl rfl ?_); clear E; intro g1 u E0 hb0; have E := Lib.hid E0; clear E0 hb0) | ((with_reducible refine kn_box (o := ⟨some 1, _, _, _, _, _⟩) E.out rfl rfl rfl ?_); clear E; intro g1 u E0 hb0; have E := Lib.hid E0; clear E0 hb0) | ((with_reducible refine kn_box_int (o := ⟨some 1, _, _, _, _, _⟩) E.out rfl rfl rfl ?_); clear E; intro g1 u E0 hb0; have E := Lib.hid E0; clear E0 hb0) | ((with_reducible refine kn_box_slice (o := ⟨some 1, _, _, _, _, _⟩) E.out rfl rfl rfl ?_); clear E; intro g1 u E0 hb0; have E := Lib.hid E0; clear E0 hb0) | ((with_reducible refine kn_box_bool (o := ⟨some 1, _, _, _, _, _⟩) E.out rfl rfl rfl ?_); clear E; intro g1 u E0 hb0; have E := Lib.hid E0; clear E0 hb0) | ((with_reducible refine kn_box_func (o := ⟨some 1, _, _, _, _, _⟩) E.out rfl rfl rfl ?_); clear E; intro g1 u E0 hb0; have E := Lib.hid E0; clear E0 hb0) | ((with_reducible refine kn_alloc (o := ⟨some 2, _, _, _, _, _⟩) E.out rfl rfl ?_); clear E; intro g2 u E0 hb0; have E := Lib.hid E0; clear E0 hb0) | ((with_reducible refine kn_box (o := ⟨some 2, _, _, _, _, _⟩) E.out rfl rfl rfl ?_); clear E; intro g2 u E0 hb0; have E := Lib.hid E0; clear E0 hb0) | ((with_reducible refine kn_box_int (o := ⟨some 2, _, _, _, _, _⟩) E.out rfl rfl rfl ?_); clear E; intro g2 u E0 hb0; have E := Lib.hid E0; clear E0 hb0) | ((with_reducible refine kn_box_slice (o := ⟨some 2, _, _, _, _, _⟩) E.out rfl rfl rfl ?_); clear E; intro g2 u E0 hb0; have E := Lib.hid E0; clear E0 hb0) | ((with_reducible refine kn_box_bool (o := ⟨some 2, _, _, _, _, _⟩) E.out rfl rfl rfl ?_); clear E; intro g2 u E0 hb0; have E := Lib.hid E0; clear E0 hb0) | ((with_reducible refine kn_box_func (o := ⟨some 2, _, _, _, _, _⟩) E.out rfl rfl rfl ?_); clear E; intro g2 u E0 hb0; have E := Lib.hid E0; clear E0 hb0) | ((with_reducible refine kn_alloc (o := ⟨some 5, _, _, _, _, _⟩) E.out rfl rfl ?_); clear E; intro g5 u E0 hb0; have E := Lib.hid E0; clear E0 hb0) | ((with_reducible refine kn_box (o := ⟨some 5, _, _, _, _, _⟩) E.out rfl rfl rfl ?_); clear E; intro g5 u E0 hb0; have E := Lib.hid E0; clear E0 hb0) | ((with_reducible refine kn_box_int (o := ⟨some 5, _, _, _, _, _⟩) E.out rfl rfl rfl ?_); clear E; intro g5 u E0 hb0; have E := Lib.hid E0; clear E0 hb0) | ((with_reducible refine kn_box_slice (o := ⟨some 5, _, _, _, _, _⟩) E.out rfl rfl rfl ?_); clear E; intro g5 u E0 hb0; have E := Lib.hid E0; clear E0 hb0) | ((with_reducible refine kn_box_bool (o := ⟨some 5, _, _, _, _, _⟩) E.out rfl rfl rfl ?_); clear E; intro g5 u E0 hb0; have E := Lib.hid E0; clear E0 hb0) | ((with_reducible refine kn_box_func (o := ⟨some 5, _, _, _, _, _⟩) E.out rfl rfl rfl ?_); clear E; intro g5 u E0 hb0; have E := Lib.hid E0; clear E0 hb0))
  go_loopw [32] (fun ci wr => ∃ k : Nat, k ≤ 3 ∧ ci = .int .i64 k ∧ Hid (Kn w [.row g5 48 (blk D F (PP (sC k))), .row g2 48 (blk false false z24), .row g1 22 [.slice A 8 c]] [bsF A 8 xs] wr)) (fun ci _ => 3 - (intOf ci).toNat)
  case atStart => exact ⟨0, by omega, rfl, by rw [h0.out]; exact E⟩
  case round =>
    clear E
    obtain ⟨k, hk, rfl, E⟩ := hrel
    have hl := hLn.out (sC k)
    by_cases hlt : k < 3
    · have hP := Lib.hid (hPair.out k hlt)
      have hva := Lib.hid (hVa.out k hlt)
      have hvb := Lib.hid (hVb.out k hlt)
      have hgb := hGb.out (8 * k + wa) wb
      have h16 : ((2 ^ wb : Nat) : Int) ≤ 16 := by
        obtain rfl | rfl : wb = 3 ∨ wb = 4 := by omega
        all_goals decide
      have hsg := Lib.hid (hSg.out (G xs (8 * k + wa) wb))
      clear hPair hVa hVb hGb hSg hMid hOne hVt hVw hPt h0 hLn hD hF
      generalize PP (sC k) = P0 at *
      obtain ⟨N2, hN2⟩ : ∃ N, G xs (8 * k + wa) wb = N := ⟨_, rfl⟩
      rw [hN2] at hgb hsg hvb
      have HN2 := Lib.hid hN2
      clear hN2
      have hb0 : 0 ≤ N2 ∧ N2 < 16 := by omega
      go_wp2_with (first
        | (go_at_call 47; (with_reducible refine (take10 E.out g1 A c xs (8 * (k : Int)) (wa : Int) (8 * k) wa ?h1 ?h2 ?h3 ?h4 ?h5).mono ?_); (case h1 => first | rfl | omega); (case h2 => first | rfl | omega); (case h3 => simp); (case h4 => omega); (case h5 => omega); rintro e w1 ⟨rfl, E0⟩; clear E; have E := Lib.hid E0; clear E0)
        | ((with_reducible refine kn_bput (i := k) (g := g5) E.out rfl rfl rfl rfl rfl ?h1 ?h2 ?_); (case h1 => omega); (case h2 => omega); clear E; intro u E0; have E := Lib.hid E0; clear E0)
        | ((with_reducible refine kn_load E.out rfl rfl rfl rfl ?_)) | ((with_reducible refine kn_load_if E.out rfl rfl rfl rfl ?_)) | ((with_reducible refine kn_loads E.out rfl rfl rfl ?_ ?_); (focus (first | rfl | (simp only [i64s_length, u8s_length]; first | rfl | assumption | omega)))) | ((with_reducible refine kn_loads_if E.out rfl rfl rfl ?_ ?_); (focus (first | rfl | (simp only [i64s_length, u8s_length]; first | rfl | assumption | omega)))) | ((with_reducible refine kn_stores E.out rfl rfl rfl rfl rfl ?_ ?_ ?_); (focus (first | exact ⟨rfl, rfl⟩ | (simp only [i64s_length, u8s_length]; refine ⟨?_, ?_⟩ <;> first | rfl | assumption | omega))); (focus (first | exact i64s_one _ | exact u8s_one _ | simp [Value.oneCell'])); clear E; intro u E0; have E := Lib.hid E0; clear E0))
      have hwp := Lib.hid (show IntKind.i64.wrap (IntKind.i64.wrap (8 * (k : Int)) + (wa : Int)) = 8 * (k : Int) + (wa : Int) from by rw [IntKind.wrap_i64, IntKind.wrap_i64]; omega)
      refine wp_region_held_drew (S := fun u => ∃ Z, Kn w [.row g5 48 (blk D F Z)] [] u) (by kernel_rfl) ⟨_, E.out.drew.part _ _ (by repeat (first | exact List.Sublist.refl _ | apply List.Sublist.cons_cons | apply List.Sublist.cons)) (by simp)⟩ (fun kS => ?_)
      have E1 := Lib.hid E.out.drew
      generalize World.drew _ = u1 at kS E1 ⊢
      clear E
      have E := E1
      clear E1
      (refine takeL (i := 0) (v := _) rfl (by kernel_rfl) (by kernel_rfl) (by kernel_rfl) (fun _ _ _ h => h) (by first | exact Or.inl ⟨by rfl, (by intro u hSu; clear hSu; go_simp; try with_reducible rfl)⟩ | exact Or.inr ⟨by rfl, rfl⟩) kS ?_; (try simp only [Act.put, List.setIfInBounds_toArray, List.set_cons_zero, List.set_cons_succ])); (refine takeL (i := 1) (v := _) rfl (by kernel_rfl) (by kernel_rfl) (by kernel_rfl) (fun _ _ _ h => h) (by first | exact Or.inl ⟨by rfl, (by intro u hSu; clear hSu; go_simp; try with_reducible rfl)⟩ | exact Or.inr ⟨by rfl, rfl⟩) kS ?_; (try simp only [Act.put, List.setIfInBounds_toArray, List.set_cons_zero, List.set_cons_succ])); (refine takeL (i := 2) (v := _) rfl (by kernel_rfl) (by kernel_rfl) (by kernel_rfl) (fun _ _ _ h => h) (by first | exact Or.inl ⟨by rfl, (by intro u hSu; clear hSu; go_simp; try with_reducible rfl)⟩ | exact Or.inr ⟨by rfl, rfl⟩) kS ?_; (try simp only [Act.put, List.setIfInBounds_toArray, List.set_cons_zero, List.set_cons_succ])); (refine takeL (i := 3) (v := _) rfl (by kernel_rfl) (by kernel_rfl) (by kernel_rfl) (fun _ _ _ h => h) (by first | exact Or.inl ⟨by rfl, (by intro u hSu; clear hSu; go_simp; try with_reducible rfl)⟩ | exact Or.inr ⟨by rfl, rfl⟩) kS ?_; (try simp only [Act.put, List.setIfInBounds_toArray, List.set_cons_zero, List.set_cons_succ])); (refine takeL (i := 4) (v := _) rfl (by kernel_rfl) (by kernel_rfl) (by kernel_rfl) (fun _ _ _ h => h) (by first | exact Or.inl ⟨by rfl, (by intro u hSu; clear hSu; go_simp; try with_reducible rfl)⟩ | exact Or.inr ⟨by rfl, rfl⟩) kS ?_; (try simp only [Act.put, List.setIfInBounds_toArray, List.set_cons_zero, List.set_cons_succ])); (refine takeL (i := 5) (v := _) rfl (by kernel_rfl) (by kernel_rfl) (by kernel_rfl) (fun _ _ _ h => h) (by first | exact Or.inl ⟨by rfl, (by intro u hSu; clear hSu; go_simp; try with_reducible rfl)⟩ | exact Or.inr ⟨by rfl, rfl⟩) kS ?_; (try simp only [Act.put, List.setIfInBounds_toArray, List.set_cons_zero, List.set_cons_succ])); (refine takeL (i := 6) (v := _) rfl (by kernel_rfl) (by kernel_rfl) (by kernel_rfl) (fun _ _ _ h => h) (by first | exact Or.inl ⟨by rfl, (by intro u hSu; clear hSu; go_simp; try with_reducible rfl)⟩ | exact Or.inr ⟨by rfl, rfl⟩) kS ?_; (try simp only [Act.put, List.setIfInBounds_toArray, List.set_cons_zero, List.set_cons_succ])); (refine takeL (i := 8) (v := _) rfl (by kernel_rfl) (by kernel_rfl) (by kernel_rfl) (fun _ _ _ h => h) (by first | exact Or.inl ⟨by rfl, (by intro u hSu; clear hSu; go_simp; try with_reducible rfl)⟩ | exact Or.inr ⟨by rfl, rfl⟩) kS ?_; (try simp only [Act.put, List.setIfInBounds_toArray, List.set_cons_zero, List.set_cons_succ]))
      (refine takeL (i := 9) (v := _) rfl (by kernel_rfl) (by kernel_rfl) (by kernel_rfl) (fun _ _ _ h => h) (yield_bd rfl rfl rfl) kS ?_; (try simp only [Act.put, List.setIfInBounds_toArray, List.set_cons_zero, List.set_cons_succ]))
      (refine takeL (i := 11) (v := _) rfl (by kernel_rfl) (by kernel_rfl) (by kernel_rfl) (fun _ _ _ h => h) (by first | exact Or.inl ⟨by rfl, (by intro u hSu; clear hSu; go_simp; try with_reducible rfl)⟩ | exact Or.inr ⟨by rfl, rfl⟩) kS ?_; (try simp only [Act.put, List.setIfInBounds_toArray, List.set_cons_zero, List.set_cons_succ]))
      rw [hwp.out]
      refine callL (i := 7) rfl (by kernel_rfl) (fun K hK => ?_)
      (go_simp; (with_reducible refine (take10 E.out g1 A c xs (8 * (k : Int) + (wa : Int)) (wb : Int) (8 * k + wa) wb ?h1 ?h2 ?h3 ?h4 ?h5).mono ?_); (case h1 => first | rfl | omega); (case h2 => first | rfl | omega); (case h3 => simp); (case h4 => omega); (case h5 => omega); rw [HN2.out]; rintro e w1 ⟨rfl, E0⟩; clear E kS; have E := Lib.hid E0; clear E0; go_wp2_with fail; (refine hK.out _ _ ⟨_, E.out.part _ _ (by repeat (first | exact List.Sublist.refl _ | apply List.Sublist.cons_cons | apply List.Sublist.cons)) (by simp)⟩ (fun kS => ?_); clear hK K; (try simp only [Act.put, List.setIfInBounds_toArray, List.set_cons_zero, List.set_cons_succ])))
      refine callL (i := 10) rfl (by kernel_rfl) (fun K hK => ?_)
      (go_simp; refine (hsg.out _ hb0.1 hb0.2).mono ?_; rintro e w1 ⟨rfl, rfl⟩; go_wp2_with fail; (refine hK.out _ _ ⟨_, E.out.part _ _ (by repeat (first | exact List.Sublist.refl _ | apply List.Sublist.cons_cons | apply List.Sublist.cons)) (by simp)⟩ (fun kS => ?_); clear hK K; (try simp only [Act.put, List.setIfInBounds_toArray, List.set_cons_zero, List.set_cons_succ])))
      (refine takeL (i := 12) (v := _) rfl (by kernel_rfl) (by kernel_rfl) (by kernel_rfl) (fun _ _ _ h => h) (by first | exact Or.inl ⟨by rfl, (by intro u hSu; clear hSu; go_simp; try with_reducible rfl)⟩ | exact Or.inr ⟨by rfl, rfl⟩) kS ?_; (try simp only [Act.put, List.setIfInBounds_toArray, List.set_cons_zero, List.set_cons_succ]))
      refine callL (i := 13) rfl (by kernel_rfl) (fun K hK => ?_)
      (rw [if_pos (by rfl)]; refine wp_kn_bput (i := 3 + k) (g := g5) E.out rfl rfl rfl rfl (by omega) (by rw [List.length_set]; omega) ?_; clear E kS; intro u E0; have E := Lib.hid E0; clear E0; (refine hK.out _ _ ⟨_, E.out.part _ _ (by repeat (first | exact List.Sublist.refl _ | apply List.Sublist.cons_cons | apply List.Sublist.cons)) (by simp)⟩ (fun kS => ?_); clear hK K; (try simp only [Act.put, List.setIfInBounds_toArray, List.set_cons_zero, List.set_cons_succ])))
      refine wpAnyH_done (by kernel_rfl) ?_ _
      go_wp2_with fail
      go_roundw
      case rel => exact ⟨k + 1, by omega, by go_num, by rw [← hP.out _ _ hva.out.symm hvb.out.symm]; exact E.out.part _ _ (by repeat (first | exact List.Sublist.refl _ | apply List.Sublist.cons_cons | apply List.Sublist.cons)) (fun _ h => h)⟩
      case measure => simp [intOf]; try omega
    · have hk3 : ¬ ((k : Int) < 3) := by omega
      have ek : k = 3 := by omega
      rw [ek, hMid.out] at E
      clear hPair hVa hVb hGb hSg hMid h0 hD hF hlt hl hk ek hz hb2
      go_wp2_with (first | ((with_reducible refine kn_load E.out rfl rfl rfl rfl ?_)) | ((with_reducible refine kn_load_if E.out rfl rfl rfl rfl ?_)) | ((with_reducible refine kn_loads E.out rfl rfl rfl ?_ ?_); (focus (first | rfl | (simp only [i64s_length, u8s_length]; first | rfl | assumption | omega)))) | ((with_reducible refine kn_loads_if E.out rfl rfl rfl ?_ ?_); (focus (first | rfl | (simp only [i64s_length, u8s_length]; first | rfl | assumption | omega)))) | ((with_reducible refine kn_stores E.out rfl rfl rfl rfl rfl ?_ ?_ ?_); (focus (first | exact ⟨rfl, rfl⟩ | (simp only [i64s_length, u8s_length]; refine ⟨?_, ?_⟩ <;> first | rfl | assumption | omega))); (focus (first | exact i64s_one _ | exact u8s_one _ | simp [Value.oneCell'])); clear E; intro u E0; have E := Lib.hid E0; clear E0))
      go_loopw [57] (fun ci wr => ∃ j : Nat, j ≤ 2 ∧ ci = .int .i64 j ∧ Hid (Kn w [.row g5 48 (blk D F (PP (sN (6 + j)))), .row g2 48 (blk false false z24), .row g1 22 [.slice A 8 c]] [bsF A 8 xs] wr)) (fun ci _ => 2 - (intOf ci).toNat)
      case atStart => exact ⟨0, by omega, rfl, E⟩
      case round =>
        clear E
        obtain ⟨j, hj, rfl, E⟩ := hrel
        have hl := hLn.out (sN (6 + j))
        by_cases hlt : j < 2
        · have hP := Lib.hid (hOne.out (6 + j) (by omega))
          have hvt := Lib.hid (hVt.out j hlt)
          clear hOne hVt hVw hPt hLn
          generalize PP (sN (6 + j)) = P0 at *
          go_wp2_with (first
            | (go_at_call 47; (with_reducible refine (take10 E.out g1 A c xs (24 + 3 * (j : Int)) 3 (24 + 3 * j) 3 ?h1 ?h2 ?h3 ?h4 ?h5).mono ?_); (case h1 => first | rfl | omega); (case h2 => first | rfl | omega); (case h3 => simp); (case h4 => omega); (case h5 => omega); rintro e w1 ⟨rfl, E0⟩; clear E; have E := Lib.hid E0; clear E0)
            | ((with_reducible refine kn_bput (i := 6 + j) (g := g5) E.out rfl rfl rfl rfl rfl ?h1 ?h2 ?_); (case h1 => omega); (case h2 => omega); clear E; intro u E0; have E := Lib.hid E0; clear E0)
            | ((with_reducible refine kn_load E.out rfl rfl rfl rfl ?_)) | ((with_reducible refine kn_load_if E.out rfl rfl rfl rfl ?_)) | ((with_reducible refine kn_loads E.out rfl rfl rfl ?_ ?_); (focus (first | rfl | (simp only [i64s_length, u8s_length]; first | rfl | assumption | omega)))) | ((with_reducible refine kn_loads_if E.out rfl rfl rfl ?_ ?_); (focus (first | rfl | (simp only [i64s_length, u8s_length]; first | rfl | assumption | omega)))) | ((with_reducible refine kn_stores E.out rfl rfl rfl rfl rfl ?_ ?_ ?_); (focus (first | exact ⟨rfl, rfl⟩ | (simp only [i64s_length, u8s_length]; refine ⟨?_, ?_⟩ <;> first | rfl | assumption | omega))); (focus (first | exact i64s_one _ | exact u8s_one _ | simp [Value.oneCell'])); clear E; intro u E0; have E := Lib.hid E0; clear E0))
          go_roundw
          case rel => exact ⟨j + 1, by omega, by go_num, by rw [show 6 + (j + 1) = 6 + j + 1 by omega, ← hP.out _ hvt.out.symm]; exact E⟩
          case measure => simp [intOf]; try omega
        · have hj2 : ¬ ((j : Int) < 2) := by omega
          have ej : j = 2 := by omega
          rw [ej] at E
          clear hVt hlt hl hj ej
          have hN1 := getN_lt' xs 32 16
          have hN2 := getN_lt' xs 48 16
          have hp1 := Lib.hid (fun k hk => hPt.out 32 k hk)
          have hp2 := Lib.hid (fun k hk => hPt.out 48 k hk)
          have hg1 := Lib.hid (show G xs 32 16 = ((getN xs true 32 16 : Nat) : Int) from rfl)
          have hg2 := Lib.hid (show G xs 48 16 = ((getN xs true 48 16 : Nat) : Int) from rfl)
          clear hPt
          generalize getN xs true 32 16 = H1 at *
          generalize getN xs true 48 16 = H2 at *
          go_wp2_with (first
            | (go_at_call 47; (with_reducible refine (take10 E.out g1 A c xs 32 16 32 16 ?h1 ?h2 ?h3 ?h4 ?h5).mono ?_); (case h1 => first | rfl | omega); (case h2 => first | rfl | omega); (case h3 => simp); (case h4 => omega); (case h5 => omega); rintro e w1 ⟨rfl, E0⟩; clear E; have E := Lib.hid E0; clear E0; rw [hg1.out])
            | (go_at_call 47; (with_reducible refine (take10 E.out g1 A c xs 48 16 48 16 ?h1 ?h2 ?h3 ?h4 ?h5).mono ?_); (case h1 => first | rfl | omega); (case h2 => first | rfl | omega); (case h3 => simp); (case h4 => omega); (case h5 => omega); rintro e w1 ⟨rfl, E0⟩; clear E; have E := Lib.hid E0; clear E0; rw [hg2.out])
            | ((with_reducible refine kn_load E.out rfl rfl rfl rfl ?_)) | ((with_reducible refine kn_load_if E.out rfl rfl rfl rfl ?_)) | ((with_reducible refine kn_loads E.out rfl rfl rfl ?_ ?_); (focus (first | rfl | (simp only [i64s_length, u8s_length]; first | rfl | assumption | omega)))) | ((with_reducible refine kn_loads_if E.out rfl rfl rfl ?_ ?_); (focus (first | rfl | (simp only [i64s_length, u8s_length]; first | rfl | assumption | omega)))) | ((with_reducible refine kn_stores E.out rfl rfl rfl rfl rfl ?_ ?_ ?_); (focus (first | exact ⟨rfl, rfl⟩ | (simp only [i64s_length, u8s_length]; refine ⟨?_, ?_⟩ <;> first | rfl | assumption | omega))); (focus (first | exact i64s_one _ | exact u8s_one _ | simp [Value.oneCell'])); clear E; intro u E0; have E := Lib.hid E0; clear E0))
          go_loopw [73] (fun ci wr => ∃ i : Nat, i ≤ 16 ∧ ci = .int .i64 i ∧ Hid (Kn w [.row g5 48 (blk D F (PP (sN (8 + i)))), .row g2 48 (blk false false z24), .row g1 22 [.slice A 8 c]] [bsF A 8 xs] wr)) (fun ci _ => 16 - (intOf ci).toNat)
          case atStart => exact ⟨0, by omega, rfl, E⟩
          case round =>
            clear E
            obtain ⟨i, hi, rfl, E⟩ := hrel
            have hl := hLn.out (sN (8 + i))
            by_cases hlt : i < 16
            · have hP := Lib.hid (hOne.out (8 + i) (by omega))
              have hpl := Lib.hid (fun u => place10_any i u hlt)
              have hvw := Lib.hid (hVw.out i)
              have hps := pos_lt hlt
              have hq1 := Lib.hid (hp1.out (pos i) hps)
              have hq2 := Lib.hid (hp2.out (pos i) hps)
              have hv := Lib.hid ((two_bits H1 H2 (pos i) _ _ hq1.out hq2.out).trans (show 2 * ((getN xs true (32 + 15 - pos i) 1 : Nat) : Int) + ((getN xs true (48 + 15 - pos i) 1 : Nat) : Int) = V (8 + i) from hvw.out.symm))
              clear hOne hVw hLn hp1 hp2 hg1 hg2 hq1 hq2 hvw
              generalize PP (sN (8 + i)) = P0 at *
              generalize pos i = q at *
              go_wp2_with (first
                | (go_at_call 51; refine (hpl.out _).mono ?_; clear hpl; rintro e w1 ⟨rfl, rfl⟩)
                | ((with_reducible refine kn_load E.out rfl rfl rfl rfl ?_)) | ((with_reducible refine kn_load_if E.out rfl rfl rfl rfl ?_)) | ((with_reducible refine kn_loads E.out rfl rfl rfl ?_ ?_); (focus (first | rfl | (simp only [i64s_length, u8s_length]; first | rfl | assumption | omega)))) | ((with_reducible refine kn_loads_if E.out rfl rfl rfl ?_ ?_); (focus (first | rfl | (simp only [i64s_length, u8s_length]; first | rfl | assumption | omega)))) | ((with_reducible refine kn_stores E.out rfl rfl rfl rfl rfl ?_ ?_ ?_); (focus (first | exact ⟨rfl, rfl⟩ | (simp only [i64s_length, u8s_length]; refine ⟨?_, ?_⟩ <;> first | rfl | assumption | omega))); (focus (first | exact i64s_one _ | exact u8s_one _ | simp [Value.oneCell'])); clear E; intro u E0; have E := Lib.hid E0; clear E0))
              refine wp_region_held_drew (S := fun _ => True) (by kernel_rfl) trivial (fun kS => ?_)
              have E1 := Lib.hid E.out.drew
              generalize World.drew _ = u1 at kS E1 ⊢
              clear E
              have E := E1
              clear E1
              (refine takeL (i := 0) (v := _) rfl (by kernel_rfl) (by kernel_rfl) (by kernel_rfl) (fun _ _ _ h => h) (by first | exact Or.inl ⟨by rfl, (by intro u hSu; clear hSu; go_simp; try with_reducible rfl)⟩ | exact Or.inr ⟨by rfl, rfl⟩) kS ?_; (try simp only [Act.put, List.setIfInBounds_toArray, List.set_cons_zero, List.set_cons_succ])); (refine takeL (i := 1) (v := _) rfl (by kernel_rfl) (by kernel_rfl) (by kernel_rfl) (fun _ _ _ h => h) (by first | exact Or.inl ⟨by rfl, (by intro u hSu; clear hSu; go_simp; try with_reducible rfl)⟩ | exact Or.inr ⟨by rfl, rfl⟩) kS ?_; (try simp only [Act.put, List.setIfInBounds_toArray, List.set_cons_zero, List.set_cons_succ])); (refine takeL (i := 2) (v := _) rfl (by kernel_rfl) (by kernel_rfl) (by kernel_rfl) (fun _ _ _ h => h) (by first | exact Or.inl ⟨by rfl, (by intro u hSu; clear hSu; go_simp; try with_reducible rfl)⟩ | exact Or.inr ⟨by rfl, rfl⟩) kS ?_; (try simp only [Act.put, List.setIfInBounds_toArray, List.set_cons_zero, List.set_cons_succ])); (refine takeL (i := 3) (v := _) rfl (by kernel_rfl) (by kernel_rfl) (by kernel_rfl) (fun _ _ _ h => h) (by first | exact Or.inl ⟨by rfl, (by intro u hSu; clear hSu; go_simp; try with_reducible rfl)⟩ | exact Or.inr ⟨by rfl, rfl⟩) kS ?_; (try simp only [Act.put, List.setIfInBounds_toArray, List.set_cons_zero, List.set_cons_succ])); (refine takeL (i := 4) (v := _) rfl (by kernel_rfl) (by kernel_rfl) (by kernel_rfl) (fun _ _ _ h => h) (by first | exact Or.inl ⟨by rfl, (by intro u hSu; clear hSu; go_simp; try with_reducible rfl)⟩ | exact Or.inr ⟨by rfl, rfl⟩) kS ?_; (try simp only [Act.put, List.setIfInBounds_toArray, List.set_cons_zero, List.set_cons_succ])); (refine takeL (i := 5) (v := _) rfl (by kernel_rfl) (by kernel_rfl) (by kernel_rfl) (fun _ _ _ h => h) (by first | exact Or.inl ⟨by rfl, (by intro u hSu; clear hSu; go_simp; try with_reducible rfl)⟩ | exact Or.inr ⟨by rfl, rfl⟩) kS ?_; (try simp only [Act.put, List.setIfInBounds_toArray, List.set_cons_zero, List.set_cons_succ])); (refine takeL (i := 6) (v := _) rfl (by kernel_rfl) (by kernel_rfl) (by kernel_rfl) (fun _ _ _ h => h) (by first | exact Or.inl ⟨by rfl, (by intro u hSu; clear hSu; go_simp; try with_reducible rfl)⟩ | exact Or.inr ⟨by rfl, rfl⟩) kS ?_; (try simp only [Act.put, List.setIfInBounds_toArray, List.set_cons_zero, List.set_cons_succ])); (refine takeL (i := 7) (v := _) rfl (by kernel_rfl) (by kernel_rfl) (by kernel_rfl) (fun _ _ _ h => h) (by first | exact Or.inl ⟨by rfl, (by intro u hSu; clear hSu; go_simp; try with_reducible rfl)⟩ | exact Or.inr ⟨by rfl, rfl⟩) kS ?_; (try simp only [Act.put, List.setIfInBounds_toArray, List.set_cons_zero, List.set_cons_succ])); (refine takeL (i := 8) (v := _) rfl (by kernel_rfl) (by kernel_rfl) (by kernel_rfl) (fun _ _ _ h => h) (by first | exact Or.inl ⟨by rfl, (by intro u hSu; clear hSu; go_simp; try with_reducible rfl)⟩ | exact Or.inr ⟨by rfl, rfl⟩) kS ?_; (try simp only [Act.put, List.setIfInBounds_toArray, List.set_cons_zero, List.set_cons_succ])); (refine takeL (i := 9) (v := _) rfl (by kernel_rfl) (by kernel_rfl) (by kernel_rfl) (fun _ _ _ h => h) (by first | exact Or.inl ⟨by rfl, (by intro u hSu; clear hSu; go_simp; try with_reducible rfl)⟩ | exact Or.inr ⟨by rfl, rfl⟩) kS ?_; (try simp only [Act.put, List.setIfInBounds_toArray, List.set_cons_zero, List.set_cons_succ])); (refine takeL (i := 10) (v := _) rfl (by kernel_rfl) (by kernel_rfl) (by kernel_rfl) (fun _ _ _ h => h) (by first | exact Or.inl ⟨by rfl, (by intro u hSu; clear hSu; go_simp; try with_reducible rfl)⟩ | exact Or.inr ⟨by rfl, rfl⟩) kS ?_; (try simp only [Act.put, List.setIfInBounds_toArray, List.set_cons_zero, List.set_cons_succ])); (refine takeL (i := 11) (v := _) rfl (by kernel_rfl) (by kernel_rfl) (by kernel_rfl) (fun _ _ _ h => h) (by first | exact Or.inl ⟨by rfl, (by intro u hSu; clear hSu; go_simp; try with_reducible rfl)⟩ | exact Or.inr ⟨by rfl, rfl⟩) kS ?_; (try simp only [Act.put, List.setIfInBounds_toArray, List.set_cons_zero, List.set_cons_succ])); (refine takeL (i := 12) (v := _) rfl (by kernel_rfl) (by kernel_rfl) (by kernel_rfl) (fun _ _ _ h => h) (by first | exact Or.inl ⟨by rfl, (by intro u hSu; clear hSu; go_simp; try with_reducible rfl)⟩ | exact Or.inr ⟨by rfl, rfl⟩) kS ?_; (try simp only [Act.put, List.setIfInBounds_toArray, List.set_cons_zero, List.set_cons_succ]))
              refine callL (i := 13) rfl (by kernel_rfl) (fun K hK => ?_)
              (rw [if_pos (by rfl)]; refine wp_kn_bput (i := 8 + i) (g := g5) (z := V (8 + i)) E.out rfl rfl rfl (congrArg (Value.int .i64) hv.out) (by omega) (by omega) ?_; clear E kS; intro u E0; have E := Lib.hid E0; clear E0; (refine hK.out _ _ trivial (fun kS => ?_); clear hK K; (try simp only [Act.put, List.setIfInBounds_toArray, List.set_cons_zero, List.set_cons_succ])))
              refine wpAnyH_done (by kernel_rfl) ?_ _
              go_wp2_with fail
              go_roundw
              case rel => exact ⟨i + 1, by omega, by go_num, by rw [show 8 + (i + 1) = 8 + i + 1 by omega, ← hP.out _ rfl]; exact E⟩
              case measure => simp [intOf]; try omega
            · have hi3 : ¬ ((i : Int) < 16) := by omega
              have ei : i = 16 := by omega
              rw [ei] at E
              have hl' := Lib.hid (hLn.out (sN 24))
              clear hOne hVw hLn hp1 hp2 hg1 hg2 hlt hl hi ei
              go_wp2_with (first
                | ((with_reducible refine kn_ball (g := g5) E.out rfl rfl rfl ?h1 ?_); (case h1 => exact hl'.out))
                | ((with_reducible refine kn_bputall (g := g2) E.out rfl rfl rfl rfl rfl ?h1 ?h2 ?_); (case h1 => rfl); (case h2 => exact hl'.out); clear E; intro u E0; have E := Lib.hid E0; clear E0)
                | ((with_reducible refine kn_load E.out rfl rfl rfl rfl ?_)) | ((with_reducible refine kn_load_if E.out rfl rfl rfl rfl ?_)) | ((with_reducible refine kn_loads E.out rfl rfl rfl ?_ ?_); (focus (first | rfl | (simp only [i64s_length, u8s_length]; first | rfl | assumption | omega)))) | ((with_reducible refine kn_loads_if E.out rfl rfl rfl ?_ ?_); (focus (first | rfl | (simp only [i64s_length, u8s_length]; first | rfl | assumption | omega)))) | ((with_reducible refine kn_stores E.out rfl rfl rfl rfl rfl ?_ ?_ ?_); (focus (first | exact ⟨rfl, rfl⟩ | (simp only [i64s_length, u8s_length]; refine ⟨?_, ?_⟩ <;> first | rfl | assumption | omega))); (focus (first | exact i64s_one _ | exact u8s_one _ | simp [Value.oneCell'])); clear E; intro u E0; have E := Lib.hid E0; clear E0))
              refine bodyPost_ret (results_kn2i E.out rfl _ rfl hl'.out) rfl ?_
              exact ⟨rfl, E.out.bel⟩
end Go.Proofs.YtgcijioiicmjiaaDoor
