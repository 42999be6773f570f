/- ETC2 blocks, the document's: bits by their places, colours, distances. -/
import Derived.Test.YtgcijioiicmjiaaDoorE2T
import Derived.Test.YtgcijioiicmjiaaDoorG2
set_option linter.all false
namespace Go.Proofs.YtgcijioiicmjiaaDoor
open Go.RowKit
open Bi Lv Eo Et

instance zeroThree : ZeroV 34 (i64s [0, 0, 0]) := .of (by kernel_rfl)
theorem Kn.see {w u : World} {R : List Res} {F : List (World → Prop)} (E : Kn w R F u) {g : Nat} {t : TypeId} {vs : List Value} [S : Sees R F g t vs] : cellsF g vs u := fun i v hv => (S.h E : Row u g t vs).cell i v hv
namespace Et
def ints (ls : List Nat) : List Int := ls.map fun (i : Nat) => (i : Int)
theorem ints_getElem? (ls : List Nat) (i : Nat) (h : i < ls.length) : (i64s (ints ls))[i]? = some (Value.int .i64 ((ls.getD i 0 : Nat) : Int)) := by
  rw [i64s_get _ _ (by unfold ints; rw [List.length_map]; exact h)]
  unfold ints
  rw [List.getD_eq_getElem?_getD, List.getElem?_map, List.getD_eq_getElem?_getD, List.getElem?_eq_getElem h]
  rfl
theorem bN_take (xs ls : List Nat) (i : Nat) (h : i < ls.length) : bN xs (ls.take (i + 1)) 0 = 2 * bN xs (ls.take i) 0 + (bt xs true (ls.getD i 0)).toNat := by
  rw [List.take_add_one, List.getElem?_eq_getElem h, bN_append]
  rw [List.getD_eq_getElem?_getD, List.getElem?_eq_getElem h]
  rfl
theorem bN_take_lt (xs ls : List Nat) (i : Nat) (h : i ≤ 16) : bN xs (ls.take i) 0 < 65536 := by
  have h1 := bN_lt xs (ls.take i) 0
  have h2 : (ls.take i).length ≤ 16 := by rw [List.length_take]; omega
  have h3 : 2 ^ (ls.take i).length ≤ 2 ^ 16 := Nat.pow_le_pow_right (by omega) h2
  omega
theorem G_one (xs : List Nat) (p : Nat) : G xs p 1 = (((bt xs true p).toNat : Nat) : Int) := by
  rw [G_bits]
  show ((bN xs [p + 0] 0 : Nat) : Int) = _
  simp [bN]
end Et
set_option maxHeartbeats 2000000 in
set_option maxRecDepth 100000 in
theorem pick11 (A : Option Addr) (c : Nat) (xs : List Nat) (gl n m : Nat) (ls : List Nat) (w : World) (h : Bs w w.heap.size A 8 xs) (hg : cellsF gl (i64s (ints ls)) w) (hn : ls.length = n) (h16 : n ≤ 16) (hl : ∀ i ∈ ls, i < 64) :
    Calls Tryd.prog 59 #[.slice A 8 c, .slice (some ⟨gl, 0, none⟩) n m] w fun e w' => e = .returned (.int .i64 (Et.bits xs ls)) ∧ Below w.heap.size w w' := by
  have E := Lib.hid (((Kn.start w).arg_bs h).arg_cells hg)
  have HT := Lib.hid (fun i (hi : i < n) u hu => top_any A 8 c ((ls.getD i 0 : Nat) : Int) 1 (ls.getD i 0) 1 rfl rfl xs u.heap.size u hu (by omega) (by omega) (by
    have hm : ls.getD i 0 ∈ ls := by rw [List.getD_eq_getElem?_getD, List.getElem?_eq_getElem (by omega)]; exact List.getElem_mem _
    have := hl _ hm
    omega))
  have HI := Lib.hid (fun i (hi : i < n) => ints_getElem? ls i (by omega))
  have HN := Lib.hid (fun i (hi : i < n) => bN_take xs ls i (by omega))
  have HB := Lib.hid (fun i (hi : i ≤ n) => bN_take_lt xs ls i (by omega))
  have HE := Lib.hid (show ((bN xs (ls.take n) 0 : Nat) : Int) = Et.bits xs ls from by rw [List.take_of_length_le (by omega)]; rfl)
  have h0 := Lib.hid (show bN xs (ls.take 0) 0 = 0 from by simp [bN])
  have H1 := Lib.hid (fun p => G_one xs p)
  clear h hg hn hl
  obtain ⟨TK, hTK⟩ : ∃ f : Nat → Nat, ∀ i, bN xs (ls.take i) 0 = f i := ⟨fun i => bN xs (ls.take i) 0, fun _ => rfl⟩
  simp only [hTK] at HN HB HE h0
  clear hTK
  generalize i64s (ints ls) = LS at *
  go_enter Tryd.func59, Tryd.ntmps59
  go_wp2_with (first | ((with_reducible refine kn_load E.out rfl rfl rfl rfl ?_)) | ((with_reducible refine kn_load_if E.out rfl rfl rfl rfl ?_)) | ((with_reducible refine kn_loads E.out rfl rfl rfl ?_ ?_); (focus (first | rfl | (simp only [i64s_length, u8s_length]; first | rfl | assumption | omega)))) | ((with_reducible refine kn_loads_if E.out rfl rfl rfl ?_ ?_); (focus (first | rfl | (simp only [i64s_length, u8s_length]; first | rfl | assumption | omega)))) | ((with_reducible refine kn_stores E.out rfl rfl rfl rfl rfl ?_ ?_ ?_); (focus (first | exact ⟨rfl, rfl⟩ | (simp only [i64s_length, u8s_length]; refine ⟨?_, ?_⟩ <;> first | rfl | assumption | omega))); (focus (first | exact i64s_one _ | exact u8s_one _ | simp [Value.oneCell'])); clear E; intro u E0; have E := Lib.hid E0; clear E0))
  go_loopw [5, 6] (fun nk ck wr => ∃ i : Nat, i ≤ n ∧ ck = .int .i64 (i : Int) ∧ nk = .int .i64 ((TK i : Nat) : Int) ∧ Hid (Kn w [] [cellsF gl LS, bsF A 8 xs] wr)) (fun _ ck _ => n - (intOf ck).toNat)
  case atStart => exact ⟨0, by omega, rfl, by rw [h0.out]; rfl, E⟩
  case round =>
    clear E
    obtain ⟨i, hi, rfl, rfl, E⟩ := hrel
    by_cases hlt : i < n
    · have hi3 : (i : Int) < (n : Int) := by omega
      have hv := Lib.hid (HI.out i hlt)
      have hn := HN.out i hlt
      have hb := HB.out (i + 1) (by omega)
      have hb0 := HB.out i hi
      have ht := Lib.hid (fun u hu => HT.out i hlt u hu)
      rw [H1.out] at ht
      clear HT HI HN HB HE h0 H1
      generalize ls.getD i 0 = p at *
      generalize (bt xs true p).toNat = tv at *
      go_wp2_with (first
        | (go_at_call 27; (with_reducible refine (ht.out _ ?h1).mono ?_); (case h1 => exact E.out.bs (by simp)); rintro e w1 ⟨rfl, rfl⟩)
        | ((with_reducible refine kn_gload (g := gl) (i := i) E.out rfl rfl ?hx ?h1 hv.out ?_); (case hx => rfl); (case h1 => simp))
        | ((with_reducible refine kn_load E.out rfl rfl rfl rfl ?_)) | ((with_reducible refine kn_load_if E.out rfl rfl rfl rfl ?_)) | ((with_reducible refine kn_loads E.out rfl rfl rfl ?_ ?_); (focus (first | rfl | (simp only [i64s_length, u8s_length]; first | rfl | assumption | omega)))) | ((with_reducible refine kn_loads_if E.out rfl rfl rfl ?_ ?_); (focus (first | rfl | (simp only [i64s_length, u8s_length]; first | rfl | assumption | omega)))) | ((with_reducible refine kn_stores E.out rfl rfl rfl rfl rfl ?_ ?_ ?_); (focus (first | exact ⟨rfl, rfl⟩ | (simp only [i64s_length, u8s_length]; refine ⟨?_, ?_⟩ <;> first | rfl | assumption | omega))); (focus (first | exact i64s_one _ | exact u8s_one _ | simp [Value.oneCell'])); clear E; intro u E0; have E := Lib.hid E0; clear E0))
      go_roundw
      case rel =>
        refine ⟨i + 1, by omega, by go_num, ?_, E.out.part _ _ (by repeat (first | exact List.Sublist.refl _ | apply List.Sublist.cons_cons | apply List.Sublist.cons)) (by simp)⟩
        rw [hn]
        exact congrArg (fun z : Int => Value.int .i64 z) (by omega)
      case measure => simp [intOf]; try omega
    · have hi3 : ¬ ((i : Int) < (n : Int)) := by omega
      obtain rfl : i = n := by omega
      go_wp2_with (first | ((with_reducible refine kn_load E.out rfl rfl rfl rfl ?_)) | ((with_reducible refine kn_load_if E.out rfl rfl rfl rfl ?_)) | ((with_reducible refine kn_loads E.out rfl rfl rfl ?_ ?_); (focus (first | rfl | (simp only [i64s_length, u8s_length]; first | rfl | assumption | omega)))) | ((with_reducible refine kn_loads_if E.out rfl rfl rfl ?_ ?_); (focus (first | rfl | (simp only [i64s_length, u8s_length]; first | rfl | assumption | omega)))) | ((with_reducible refine kn_stores E.out rfl rfl rfl rfl rfl ?_ ?_ ?_); (focus (first | exact ⟨rfl, rfl⟩ | (simp only [i64s_length, u8s_length]; refine ⟨?_, ?_⟩ <;> first | rfl | assumption | omega))); (focus (first | exact i64s_one _ | exact u8s_one _ | simp [Value.oneCell'])); clear E; intro u E0; have E := Lib.hid E0; clear E0))
      rw [HE.out]
      go_ret
      exact ⟨rfl, E.out.bel⟩
set_option maxHeartbeats 1000000 in
set_option maxRecDepth 100000 in
theorem run11 (A : Option Addr) (c : Nat) (xs : List Nat) (a b m : Nat) (w : World) (h : Bs w w.heap.size A 8 xs) (hb : a + m = b + 1) (h64 : b < 64) (h16 : m ≤ 16) :
    Calls Tryd.prog 41 #[.slice A 8 c, .int .i64 (a : Int), .int .i64 (b : Int)] w fun e w' => e = .returned (.int .i64 (G xs a m)) ∧ Below w.heap.size w w' := by
  have E := Lib.hid ((Kn.start w).arg_bs h)
  have ht := Lib.hid (fun u hu => top_any A 8 c (a : Int) ((b : Int) - (a : Int) + 1) a m rfl (by omega) xs u.heap.size u hu (by omega) h16 (by omega))
  clear h
  go_enter Tryd.func41, Tryd.ntmps41
  go_wp2_with (first
    | (go_at_call 27; (with_reducible refine (ht.out _ ?h1).mono ?_); (case h1 => exact E.out.bs (by simp)); rintro e w1 ⟨rfl, rfl⟩)
    | ((with_reducible refine kn_load E.out rfl rfl rfl rfl ?_)) | ((with_reducible refine kn_load_if E.out rfl rfl rfl rfl ?_)) | ((with_reducible refine kn_loads E.out rfl rfl rfl ?_ ?_); (focus (first | rfl | (simp only [i64s_length, u8s_length]; first | rfl | assumption | omega)))) | ((with_reducible refine kn_loads_if E.out rfl rfl rfl ?_ ?_); (focus (first | rfl | (simp only [i64s_length, u8s_length]; first | rfl | assumption | omega)))) | ((with_reducible refine kn_stores E.out rfl rfl rfl rfl rfl ?_ ?_ ?_); (focus (first | exact ⟨rfl, rfl⟩ | (simp only [i64s_length, u8s_length]; refine ⟨?_, ?_⟩ <;> first | rfl | assumption | omega))); (focus (first | exact i64s_one _ | exact u8s_one _ | simp [Value.oneCell'])); clear E; intro u E0; have E := Lib.hid E0; clear E0))
  go_ret
  exact ⟨rfl, E.out.bel⟩
set_option maxHeartbeats 1000000 in
set_option maxRecDepth 100000 in
theorem col11 (a b c : Int) (w : World) : Calls Tryd.prog 65 #[arr [a, b, c]] w fun e w' => e = .returned (arr (col4 a b c)) ∧ Below w.heap.size w w' := by
  have E := Lib.hid (Kn.start w)
  have HA := Lib.hid (fun u => rwide_any a 4 u)
  have HB := Lib.hid (fun u => rwide_any b 4 u)
  have HC := Lib.hid (fun u => rwide_any c 4 u)
  unfold col4
  generalize wideV a 4 = x at *
  generalize wideV b 4 = y at *
  generalize wideV c 4 = z at *
  have hBt : ∀ u, (Instr.build 25 #[(0, .int .i64 x), (1, .int .i64 y), (2, .int .i64 z), (3, .int .i64 255)]).run Tryd.prog u = .ok (arr [x, y, z, 255]) u := fun u => run_build u _ _ _ (by kernel_rfl)
  go_enter Tryd.func65, Tryd.ntmps65
  go_wp2_with (first | ((with_reducible refine kn_load E.out rfl rfl rfl rfl ?_)) | ((with_reducible refine kn_load_if E.out rfl rfl rfl rfl ?_)) | ((with_reducible refine kn_loads E.out rfl rfl rfl ?_ ?_); (focus (first | rfl | (simp only [i64s_length, u8s_length]; first | rfl | assumption | omega)))) | ((with_reducible refine kn_loads_if E.out rfl rfl rfl ?_ ?_); (focus (first | rfl | (simp only [i64s_length, u8s_length]; first | rfl | assumption | omega)))) | ((with_reducible refine kn_stores E.out rfl rfl rfl rfl rfl ?_ ?_ ?_); (focus (first | exact ⟨rfl, rfl⟩ | (simp only [i64s_length, u8s_length]; refine ⟨?_, ?_⟩ <;> first | rfl | assumption | omega))); (focus (first | exact i64s_one _ | exact u8s_one _ | simp [Value.oneCell'])); clear E; intro u E0; have E := Lib.hid E0; clear E0) | ((with_reducible refine kn_alloc (o := ⟨some 1, _, _, _, _, _⟩) E.out rfl rfl ?_); clear E; intro g1 u E0 hb0; have E := Lib.hid E0; clear E0 hb0) | ((with_reducible refine kn_box (o := ⟨some 1, _, _, _, _, _⟩) E.out rfl rfl rfl ?_); clear E; intro g1 u E0 hb0; have E := Lib.hid E0; clear E0 hb0) | ((with_reducible refine kn_box_int (o := ⟨some 1, _, _, _, _, _⟩) E.out rfl rfl rfl ?_); clear E; intro g1 u E0 hb0; have E := Lib.hid E0; clear E0 hb0) | ((with_reducible refine kn_box_slice (o := ⟨some 1, _, _, _, _, _⟩) E.out rfl rfl rfl ?_); clear E; intro g1 u E0 hb0; have E := Lib.hid E0; clear E0 hb0) | ((with_reducible refine kn_box_bool (o := ⟨some 1, _, _, _, _, _⟩) E.out rfl rfl rfl ?_); clear E; intro g1 u E0 hb0; have E := Lib.hid E0; clear E0 hb0) | ((with_reducible refine kn_box_func (o := ⟨some 1, _, _, _, _, _⟩) E.out rfl rfl rfl ?_); clear E; intro g1 u E0 hb0; have E := Lib.hid E0; clear E0 hb0) | ((with_reducible refine kn_alloc (o := ⟨some 2, _, _, _, _, _⟩) E.out rfl rfl ?_); clear E; intro g2 u E0 hb0; have E := Lib.hid E0; clear E0 hb0) | ((with_reducible refine kn_box (o := ⟨some 2, _, _, _, _, _⟩) E.out rfl rfl rfl ?_); clear E; intro g2 u E0 hb0; have E := Lib.hid E0; clear E0 hb0) | ((with_reducible refine kn_box_int (o := ⟨some 2, _, _, _, _, _⟩) E.out rfl rfl rfl ?_); clear E; intro g2 u E0 hb0; have E := Lib.hid E0; clear E0 hb0) | ((with_reducible refine kn_box_slice (o := ⟨some 2, _, _, _, _, _⟩) E.out rfl rfl rfl ?_); clear E; intro g2 u E0 hb0; have E := Lib.hid E0; clear E0 hb0) | ((with_reducible refine kn_box_bool (o := ⟨some 2, _, _, _, _, _⟩) E.out rfl rfl rfl ?_); clear E; intro g2 u E0 hb0; have E := Lib.hid E0; clear E0 hb0) | ((with_reducible refine kn_box_func (o := ⟨some 2, _, _, _, _, _⟩) E.out rfl rfl rfl ?_); clear E; intro g2 u E0 hb0; have E := Lib.hid E0; clear E0 hb0))
  refine wp_region_held_drew (S := Kn w [.row g1 34 (i64s [a, b, c])] []) (by kernel_rfl) (E.out.drew.part _ _ (by repeat (first | exact List.Sublist.refl _ | apply List.Sublist.cons_cons | apply List.Sublist.cons)) (by simp)) (fun kS => ?_)
  have E1 := Lib.hid E.out.drew
  generalize World.drew _ = u1 at kS E1 ⊢
  clear E
  have E := E1
  clear E1
  (refine takeL (i := 0) (v := _) rfl (by kernel_rfl) (by kernel_rfl) (by kernel_rfl) (fun _ _ _ h => h) (by first | exact Or.inl ⟨by rfl, (by intro u hSu; clear hSu; go_simp; try with_reducible rfl)⟩ | exact Or.inr ⟨by rfl, rfl⟩) kS ?_; (try simp only [Act.put, List.setIfInBounds_toArray, List.set_cons_zero, List.set_cons_succ]))
  (refine takeL (i := 1) (v := _) rfl (by kernel_rfl) (by kernel_rfl) (by kernel_rfl) (fun _ _ _ h => h) (by first | exact yield_load rfl rfl rfl rfl | exact yield_loads rfl rfl rfl rfl | exact yield_loads rfl rfl rfl (by simp only [i64s_length, u8s_length]; first | assumption | omega) | exact yield_loadi rfl rfl rfl (by first | assumption | omega) | exact yield_loadp rfl rfl rfl (by first | assumption | omega)) kS ?_; (try simp only [Act.put, List.setIfInBounds_toArray, List.set_cons_zero, List.set_cons_succ]))
  (refine takeL (i := 3) (v := _) rfl (by kernel_rfl) (by kernel_rfl) (by kernel_rfl) (fun _ _ _ h => h) (by first | exact Or.inl ⟨by rfl, (by intro u hSu; clear hSu; go_simp; try with_reducible rfl)⟩ | exact Or.inr ⟨by rfl, rfl⟩) kS ?_; (try simp only [Act.put, List.setIfInBounds_toArray, List.set_cons_zero, List.set_cons_succ]))
  (refine takeL (i := 4) (v := _) rfl (by kernel_rfl) (by kernel_rfl) (by kernel_rfl) (fun _ _ _ h => h) (by first | exact yield_load rfl rfl rfl rfl | exact yield_loads rfl rfl rfl rfl | exact yield_loads rfl rfl rfl (by simp only [i64s_length, u8s_length]; first | assumption | omega) | exact yield_loadi rfl rfl rfl (by first | assumption | omega) | exact yield_loadp rfl rfl rfl (by first | assumption | omega)) kS ?_; (try simp only [Act.put, List.setIfInBounds_toArray, List.set_cons_zero, List.set_cons_succ]))
  (refine takeL (i := 6) (v := _) rfl (by kernel_rfl) (by kernel_rfl) (by kernel_rfl) (fun _ _ _ h => h) (by first | exact Or.inl ⟨by rfl, (by intro u hSu; clear hSu; go_simp; try with_reducible rfl)⟩ | exact Or.inr ⟨by rfl, rfl⟩) kS ?_; (try simp only [Act.put, List.setIfInBounds_toArray, List.set_cons_zero, List.set_cons_succ]))
  (refine takeL (i := 7) (v := _) rfl (by kernel_rfl) (by kernel_rfl) (by kernel_rfl) (fun _ _ _ h => h) (by first | exact yield_load rfl rfl rfl rfl | exact yield_loads rfl rfl rfl rfl | exact yield_loads rfl rfl rfl (by simp only [i64s_length, u8s_length]; first | assumption | omega) | exact yield_loadi rfl rfl rfl (by first | assumption | omega) | exact yield_loadp rfl rfl rfl (by first | assumption | omega)) kS ?_; (try simp only [Act.put, List.setIfInBounds_toArray, List.set_cons_zero, List.set_cons_succ]))
  refine callL (i := 2) rfl (by kernel_rfl) (fun K hK => ?_)
  (rw [if_pos (by rfl)]; go_simp; (with_reducible refine (HA.out _).mono ?_); rintro e' w1 ⟨rfl, rfl⟩; go_wp2_with fail; (refine hK.out _ _ (E.out.part _ _ (by repeat (first | exact List.Sublist.refl _ | apply List.Sublist.cons_cons | apply List.Sublist.cons)) (by simp)) (fun kS => ?_); clear hK K; (try simp only [Act.put, List.setIfInBounds_toArray, List.set_cons_zero, List.set_cons_succ])))
  refine callL (i := 5) rfl (by kernel_rfl) (fun K hK => ?_)
  (rw [if_pos (by rfl)]; go_simp; (with_reducible refine (HB.out _).mono ?_); rintro e' w1 ⟨rfl, rfl⟩; go_wp2_with fail; (refine hK.out _ _ (E.out.part _ _ (by repeat (first | exact List.Sublist.refl _ | apply List.Sublist.cons_cons | apply List.Sublist.cons)) (by simp)) (fun kS => ?_); clear hK K; (try simp only [Act.put, List.setIfInBounds_toArray, List.set_cons_zero, List.set_cons_succ])))
  refine callL (i := 8) rfl (by kernel_rfl) (fun K hK => ?_)
  (rw [if_pos (by rfl)]; go_simp; (with_reducible refine (HC.out _).mono ?_); rintro e' w1 ⟨rfl, rfl⟩; go_wp2_with fail; (refine hK.out _ _ (E.out.part _ _ (by repeat (first | exact List.Sublist.refl _ | apply List.Sublist.cons_cons | apply List.Sublist.cons)) (by simp)) (fun kS => ?_); clear hK K; (try simp only [Act.put, List.setIfInBounds_toArray, List.set_cons_zero, List.set_cons_succ])))
  (refine takeL (i := 9) (v := arr [x, y, z, 255]) rfl (by kernel_rfl) (by kernel_rfl) (by kernel_rfl) (fun _ _ _ h => h) (yield_build4 rfl rfl hBt (by simp only [List.map_toArray, List.map_cons, List.map_nil]; rfl)) kS ?_; (try simp only [Act.put, List.setIfInBounds_toArray, List.set_cons_zero, List.set_cons_succ]))
  refine callL (i := 10) rfl (by kernel_rfl) (fun K hK => ?_)
  (rw [if_pos (by rfl)]; refine wp_kn_stores (g := g2) (vs := i64s [x, y, z, 255]) E.out rfl rfl rfl rfl (by exact ⟨rfl, rfl⟩) (i64s_one _) ?_; clear E kS; intro u E0; have E := Lib.hid E0; clear E0; (refine hK.out _ _ (E.out.part _ _ (by repeat (first | exact List.Sublist.refl _ | apply List.Sublist.cons_cons | apply List.Sublist.cons)) (by simp)) (fun kS => ?_); clear hK K; (try simp only [Act.put, List.setIfInBounds_toArray, List.set_cons_zero, List.set_cons_succ])))
  refine wpAnyH_done (by kernel_rfl) ?_ _
  go_wp2_with fail
  refine bodyPost_ret (results_kn E.out rfl _ rfl rfl) rfl ?_
  exact ⟨rfl, E.out.bel⟩
set_option maxHeartbeats 1000000 in
set_option maxRecDepth 100000 in
theorem wide11 (a b c : Int) (w : World) : Calls Tryd.prog 19 #[arr [a, b, c]] w fun e w' => e = .returned (arr (colP a b c)) ∧ Below w.heap.size w w' := by
  have E := Lib.hid (Kn.start w)
  have HA := Lib.hid (fun u => rwide_any a 6 u)
  have HB := Lib.hid (fun u => rwide_any b 7 u)
  have HC := Lib.hid (fun u => rwide_any c 6 u)
  unfold colP
  generalize wideV a 6 = x at *
  generalize wideV b 7 = y at *
  generalize wideV c 6 = z at *
  have hBt : ∀ u, (Instr.build 25 #[(0, .int .i64 x), (1, .int .i64 y), (2, .int .i64 z), (3, .int .i64 255)]).run Tryd.prog u = .ok (arr [x, y, z, 255]) u := fun u => run_build u _ _ _ (by kernel_rfl)
  go_enter Tryd.func19, Tryd.ntmps19
  go_wp2_with (first | ((with_reducible refine kn_load E.out rfl rfl rfl rfl ?_)) | ((with_reducible refine kn_load_if E.out rfl rfl rfl rfl ?_)) | ((with_reducible refine kn_loads E.out rfl rfl rfl ?_ ?_); (focus (first | rfl | (simp only [i64s_length, u8s_length]; first | rfl | assumption | omega)))) | ((with_reducible refine kn_loads_if E.out rfl rfl rfl ?_ ?_); (focus (first | rfl | (simp only [i64s_length, u8s_length]; first | rfl | assumption | omega)))) | ((with_reducible refine kn_stores E.out rfl rfl rfl rfl rfl ?_ ?_ ?_); (focus (first | exact ⟨rfl, rfl⟩ | (simp only [i64s_length, u8s_length]; refine ⟨?_, ?_⟩ <;> first | rfl | assumption | omega))); (focus (first | exact i64s_one _ | exact u8s_one _ | simp [Value.oneCell'])); clear E; intro u E0; have E := Lib.hid E0; clear E0) | ((with_reducible refine kn_alloc (o := ⟨some 1, _, _, _, _, _⟩) E.out rfl rfl ?_); clear E; intro g1 u E0 hb0; have E := Lib.hid E0; clear E0 hb0) | ((with_reducible refine kn_box (o := ⟨some 1, _, _, _, _, _⟩) E.out rfl rfl rfl ?_); clear E; intro g1 u E0 hb0; have E := Lib.hid E0; clear E0 hb0) | ((with_reducible refine kn_box_int (o := ⟨some 1, _, _, _, _, _⟩) E.out rfl rfl rfl ?_); clear E; intro g1 u E0 hb0; have E := Lib.hid E0; clear E0 hb0) | ((with_reducible refine kn_box_slice (o := ⟨some 1, _, _, _, _, _⟩) E.out rfl rfl rfl ?_); clear E; intro g1 u E0 hb0; have E := Lib.hid E0; clear E0 hb0) | ((with_reducible refine kn_box_bool (o := ⟨some 1, _, _, _, _, _⟩) E.out rfl rfl rfl ?_); clear E; intro g1 u E0 hb0; have E := Lib.hid E0; clear E0 hb0) | ((with_reducible refine kn_box_func (o := ⟨some 1, _, _, _, _, _⟩) E.out rfl rfl rfl ?_); clear E; intro g1 u E0 hb0; have E := Lib.hid E0; clear E0 hb0) | ((with_reducible refine kn_alloc (o := ⟨some 2, _, _, _, _, _⟩) E.out rfl rfl ?_); clear E; intro g2 u E0 hb0; have E := Lib.hid E0; clear E0 hb0) | ((with_reducible refine kn_box (o := ⟨some 2, _, _, _, _, _⟩) E.out rfl rfl rfl ?_); clear E; intro g2 u E0 hb0; have E := Lib.hid E0; clear E0 hb0) | ((with_reducible refine kn_box_int (o := ⟨some 2, _, _, _, _, _⟩) E.out rfl rfl rfl ?_); clear E; intro g2 u E0 hb0; have E := Lib.hid E0; clear E0 hb0) | ((with_reducible refine kn_box_slice (o := ⟨some 2, _, _, _, _, _⟩) E.out rfl rfl rfl ?_); clear E; intro g2 u E0 hb0; have E := Lib.hid E0; clear E0 hb0) | ((with_reducible refine kn_box_bool (o := ⟨some 2, _, _, _, _, _⟩) E.out rfl rfl rfl ?_); clear E; intro g2 u E0 hb0; have E := Lib.hid E0; clear E0 hb0) | ((with_reducible refine kn_box_func (o := ⟨some 2, _, _, _, _, _⟩) E.out rfl rfl rfl ?_); clear E; intro g2 u E0 hb0; have E := Lib.hid E0; clear E0 hb0))
  refine wp_region_held_drew (S := Kn w [.row g1 34 (i64s [a, b, c])] []) (by kernel_rfl) (E.out.drew.part _ _ (by repeat (first | exact List.Sublist.refl _ | apply List.Sublist.cons_cons | apply List.Sublist.cons)) (by simp)) (fun kS => ?_)
  have E1 := Lib.hid E.out.drew
  generalize World.drew _ = u1 at kS E1 ⊢
  clear E
  have E := E1
  clear E1
  (refine takeL (i := 0) (v := _) rfl (by kernel_rfl) (by kernel_rfl) (by kernel_rfl) (fun _ _ _ h => h) (by first | exact Or.inl ⟨by rfl, (by intro u hSu; clear hSu; go_simp; try with_reducible rfl)⟩ | exact Or.inr ⟨by rfl, rfl⟩) kS ?_; (try simp only [Act.put, List.setIfInBounds_toArray, List.set_cons_zero, List.set_cons_succ]))
  (refine takeL (i := 1) (v := _) rfl (by kernel_rfl) (by kernel_rfl) (by kernel_rfl) (fun _ _ _ h => h) (by first | exact yield_load rfl rfl rfl rfl | exact yield_loads rfl rfl rfl rfl | exact yield_loads rfl rfl rfl (by simp only [i64s_length, u8s_length]; first | assumption | omega) | exact yield_loadi rfl rfl rfl (by first | assumption | omega) | exact yield_loadp rfl rfl rfl (by first | assumption | omega)) kS ?_; (try simp only [Act.put, List.setIfInBounds_toArray, List.set_cons_zero, List.set_cons_succ]))
  (refine takeL (i := 3) (v := _) rfl (by kernel_rfl) (by kernel_rfl) (by kernel_rfl) (fun _ _ _ h => h) (by first | exact Or.inl ⟨by rfl, (by intro u hSu; clear hSu; go_simp; try with_reducible rfl)⟩ | exact Or.inr ⟨by rfl, rfl⟩) kS ?_; (try simp only [Act.put, List.setIfInBounds_toArray, List.set_cons_zero, List.set_cons_succ]))
  (refine takeL (i := 4) (v := _) rfl (by kernel_rfl) (by kernel_rfl) (by kernel_rfl) (fun _ _ _ h => h) (by first | exact yield_load rfl rfl rfl rfl | exact yield_loads rfl rfl rfl rfl | exact yield_loads rfl rfl rfl (by simp only [i64s_length, u8s_length]; first | assumption | omega) | exact yield_loadi rfl rfl rfl (by first | assumption | omega) | exact yield_loadp rfl rfl rfl (by first | assumption | omega)) kS ?_; (try simp only [Act.put, List.setIfInBounds_toArray, List.set_cons_zero, List.set_cons_succ]))
  (refine takeL (i := 6) (v := _) rfl (by kernel_rfl) (by kernel_rfl) (by kernel_rfl) (fun _ _ _ h => h) (by first | exact Or.inl ⟨by rfl, (by intro u hSu; clear hSu; go_simp; try with_reducible rfl)⟩ | exact Or.inr ⟨by rfl, rfl⟩) kS ?_; (try simp only [Act.put, List.setIfInBounds_toArray, List.set_cons_zero, List.set_cons_succ]))
  (refine takeL (i := 7) (v := _) rfl (by kernel_rfl) (by kernel_rfl) (by kernel_rfl) (fun _ _ _ h => h) (by first | exact yield_load rfl rfl rfl rfl | exact yield_loads rfl rfl rfl rfl | exact yield_loads rfl rfl rfl (by simp only [i64s_length, u8s_length]; first | assumption | omega) | exact yield_loadi rfl rfl rfl (by first | assumption | omega) | exact yield_loadp rfl rfl rfl (by first | assumption | omega)) kS ?_; (try simp only [Act.put, List.setIfInBounds_toArray, List.set_cons_zero, List.set_cons_succ]))
  refine callL (i := 2) rfl (by kernel_rfl) (fun K hK => ?_)
  (rw [if_pos (by rfl)]; go_simp; (with_reducible refine (HA.out _).mono ?_); rintro e' w1 ⟨rfl, rfl⟩; go_wp2_with fail; (refine hK.out _ _ (E.out.part _ _ (by repeat (first | exact List.Sublist.refl _ | apply List.Sublist.cons_cons | apply List.Sublist.cons)) (by simp)) (fun kS => ?_); clear hK K; (try simp only [Act.put, List.setIfInBounds_toArray, List.set_cons_zero, List.set_cons_succ])))
  refine callL (i := 5) rfl (by kernel_rfl) (fun K hK => ?_)
  (rw [if_pos (by rfl)]; go_simp; (with_reducible refine (HB.out _).mono ?_); rintro e' w1 ⟨rfl, rfl⟩; go_wp2_with fail; (refine hK.out _ _ (E.out.part _ _ (by repeat (first | exact List.Sublist.refl _ | apply List.Sublist.cons_cons | apply List.Sublist.cons)) (by simp)) (fun kS => ?_); clear hK K; (try simp only [Act.put, List.setIfInBounds_toArray, List.set_cons_zero, List.set_cons_succ])))
  refine callL (i := 8) rfl (by kernel_rfl) (fun K hK => ?_)
  (rw [if_pos (by rfl)]; go_simp; (with_reducible refine (HC.out _).mono ?_); rintro e' w1 ⟨rfl, rfl⟩; go_wp2_with fail; (refine hK.out _ _ (E.out.part _ _ (by repeat (first | exact List.Sublist.refl _ | apply List.Sublist.cons_cons | apply List.Sublist.cons)) (by simp)) (fun kS => ?_); clear hK K; (try simp only [Act.put, List.setIfInBounds_toArray, List.set_cons_zero, List.set_cons_succ])))
  (refine takeL (i := 9) (v := arr [x, y, z, 255]) rfl (by kernel_rfl) (by kernel_rfl) (by kernel_rfl) (fun _ _ _ h => h) (yield_build4 rfl rfl hBt (by simp only [List.map_toArray, List.map_cons, List.map_nil]; rfl)) kS ?_; (try simp only [Act.put, List.setIfInBounds_toArray, List.set_cons_zero, List.set_cons_succ]))
  refine callL (i := 10) rfl (by kernel_rfl) (fun K hK => ?_)
  (rw [if_pos (by rfl)]; refine wp_kn_stores (g := g2) (vs := i64s [x, y, z, 255]) E.out rfl rfl rfl rfl (by exact ⟨rfl, rfl⟩) (i64s_one _) ?_; clear E kS; intro u E0; have E := Lib.hid E0; clear E0; (refine hK.out _ _ (E.out.part _ _ (by repeat (first | exact List.Sublist.refl _ | apply List.Sublist.cons_cons | apply List.Sublist.cons)) (by simp)) (fun kS => ?_); clear hK K; (try simp only [Act.put, List.setIfInBounds_toArray, List.set_cons_zero, List.set_cons_succ])))
  refine wpAnyH_done (by kernel_rfl) ?_ _
  go_wp2_with fail
  refine bodyPost_ret (results_kn E.out rfl _ rfl rfl) rfl ?_
  exact ⟨rfl, E.out.bel⟩
set_option maxHeartbeats 1000000 in
set_option maxRecDepth 100000 in
theorem number11 (a b c : Int) (w : World) (ha : 0 ≤ a ∧ a < 16) (hb : 0 ≤ b ∧ b < 16) (hc : 0 ≤ c ∧ c < 16) : Calls Tryd.prog 66 #[arr [a, b, c]] w fun e w' => e = .returned (.int .i64 (256 * a + 16 * b + c)) ∧ Below w.heap.size w w' := by
  have E := Lib.hid (Kn.start w)
  have s : wrap64 (wrap64 (wrap64 (256 * a) + wrap64 (16 * b)) + c) = 256 * a + 16 * b + c := by rw [wrap64_small (256 * a) (by omega) (by omega), wrap64_small (16 * b) (by omega) (by omega), wrap64_small (256 * a + 16 * b) (by omega) (by omega), wrap64_small _ (by omega) (by omega)]
  go_enter Tryd.func66, Tryd.ntmps66
  go_wp2_with (first | ((with_reducible refine kn_load E.out rfl rfl rfl rfl ?_)) | ((with_reducible refine kn_load_if E.out rfl rfl rfl rfl ?_)) | ((with_reducible refine kn_loads E.out rfl rfl rfl ?_ ?_); (focus (first | rfl | (simp only [i64s_length, u8s_length]; first | rfl | assumption | omega)))) | ((with_reducible refine kn_loads_if E.out rfl rfl rfl ?_ ?_); (focus (first | rfl | (simp only [i64s_length, u8s_length]; first | rfl | assumption | omega)))) | ((with_reducible refine kn_stores E.out rfl rfl rfl rfl rfl ?_ ?_ ?_); (focus (first | exact ⟨rfl, rfl⟩ | (simp only [i64s_length, u8s_length]; refine ⟨?_, ?_⟩ <;> first | rfl | assumption | omega))); (focus (first | exact i64s_one _ | exact u8s_one _ | simp [Value.oneCell'])); clear E; intro u E0; have E := Lib.hid E0; clear E0) | ((with_reducible refine kn_alloc (o := ⟨some 1, _, _, _, _, _⟩) E.out rfl rfl ?_); clear E; intro g1 u E0 hb0; have E := Lib.hid E0; clear E0 hb0) | ((with_reducible refine kn_box (o := ⟨some 1, _, _, _, _, _⟩) E.out rfl rfl rfl ?_); clear E; intro g1 u E0 hb0; have E := Lib.hid E0; clear E0 hb0) | ((with_reducible refine kn_box_int (o := ⟨some 1, _, _, _, _, _⟩) E.out rfl rfl rfl ?_); clear E; intro g1 u E0 hb0; have E := Lib.hid E0; clear E0 hb0) | ((with_reducible refine kn_box_slice (o := ⟨some 1, _, _, _, _, _⟩) E.out rfl rfl rfl ?_); clear E; intro g1 u E0 hb0; have E := Lib.hid E0; clear E0 hb0) | ((with_reducible refine kn_box_bool (o := ⟨some 1, _, _, _, _, _⟩) E.out rfl rfl rfl ?_); clear E; intro g1 u E0 hb0; have E := Lib.hid E0; clear E0 hb0) | ((with_reducible refine kn_box_func (o := ⟨some 1, _, _, _, _, _⟩) E.out rfl rfl rfl ?_); clear E; intro g1 u E0 hb0; have E := Lib.hid E0; clear E0 hb0))
  (try rw [s])
  go_ret
  exact ⟨rfl, E.out.bel⟩
namespace Et
theorem rem8 (n : Int) : (if n.tmod 8 < 0 then n.tmod 8 + 8 else n.tmod 8) = n % 8 := by
  have h1 := Int.tmod_add_mul_tdiv n 8
  have h2 : -8 < n.tmod 8 ∧ n.tmod 8 < 8 := ⟨by have := Int.lt_tmod_of_pos n (show (0 : Int) < 8 by omega); omega, by have := Int.tmod_lt_of_pos n (show (0 : Int) < 8 by omega); omega⟩
  split <;> omega
end Et
set_option maxHeartbeats 1000000 in
set_option maxRecDepth 100000 in
theorem rdist11 (n : Int) (w : World) : Calls Tryd.prog 13 #[.int .i64 n] w fun e w' => e = .returned (.int .i64 (disV n)) ∧ Below w.heap.size w w' := by
  have E := Lib.hid (Kn.start w)
  have h8 := rem8 n
  have hb : -8 < n.tmod 8 ∧ n.tmod 8 < 8 := ⟨by have := Int.lt_tmod_of_pos n (show (0 : Int) < 8 by omega); omega, by have := Int.tmod_lt_of_pos n (show (0 : Int) < 8 by omega); omega⟩
  have hsz_int : (Tryd.prog.info? 3).map (·.size) = some 1 := by kernel_rfl
  have hz_int : ((Tryd.prog.info? 3).bind (·.zero)).isSome = true := by kernel_rfl
  unfold disV
  rw [← h8]
  clear h8
  by_cases hq : n.tmod 8 < 0
  · rw [if_pos hq]
    have hv := Lib.hid (i64s_get disL (n.tmod 8 + 8).toNat (by show (n.tmod 8 + 8).toNat < 8; omega))
    have hb2 : 0 ≤ n.tmod 8 + 8 ∧ n.tmod 8 + 8 < 8 := by omega
    go_enter Tryd.func13, Tryd.ntmps13
    go_wp2_with (first
      | ((with_reducible refine kn_buildi E.out rfl rfl disL Tryd.underlying73 hsz_int hz_int ?_ ?_ ?_ ?_ ?_); (focus (rfl)); (focus (omega)); (focus (omega)); (focus (rfl)); clear E; intro gg u E0 hg; have E := Lib.hid E0; clear E0)
      | ((with_reducible refine kn_load (g := gg) (i := (n.tmod 8 + 8).toNat) E.out rfl rfl ?hx hv.out ?_); (case hx => first | rfl | (simp; done)))
      | ((with_reducible refine kn_load E.out rfl rfl rfl rfl ?_)) | ((with_reducible refine kn_load_if E.out rfl rfl rfl rfl ?_)) | ((with_reducible refine kn_loads E.out rfl rfl rfl ?_ ?_); (focus (first | rfl | (simp only [i64s_length, u8s_length]; first | rfl | assumption | omega)))) | ((with_reducible refine kn_loads_if E.out rfl rfl rfl ?_ ?_); (focus (first | rfl | (simp only [i64s_length, u8s_length]; first | rfl | assumption | omega)))) | ((with_reducible refine kn_stores E.out rfl rfl rfl rfl rfl ?_ ?_ ?_); (focus (first | exact ⟨rfl, rfl⟩ | (simp only [i64s_length, u8s_length]; refine ⟨?_, ?_⟩ <;> first | rfl | assumption | omega))); (focus (first | exact i64s_one _ | exact u8s_one _ | simp [Value.oneCell'])); clear E; intro u E0; have E := Lib.hid E0; clear E0))
    go_ret
    exact ⟨rfl, E.out.bel⟩
  · rw [if_neg hq]
    have hv := Lib.hid (i64s_get disL (n.tmod 8).toNat (by show (n.tmod 8).toNat < 8; omega))
    have hb2 : 0 ≤ n.tmod 8 ∧ n.tmod 8 < 8 := by omega
    go_enter Tryd.func13, Tryd.ntmps13
    go_wp2_with (first
      | ((with_reducible refine kn_buildi E.out rfl rfl disL Tryd.underlying73 hsz_int hz_int ?_ ?_ ?_ ?_ ?_); (focus (rfl)); (focus (omega)); (focus (omega)); (focus (rfl)); clear E; intro gg u E0 hg; have E := Lib.hid E0; clear E0)
      | ((with_reducible refine kn_load (g := gg) (i := (n.tmod 8).toNat) E.out rfl rfl ?hx hv.out ?_); (case hx => first | rfl | (simp; done)))
      | ((with_reducible refine kn_load E.out rfl rfl rfl rfl ?_)) | ((with_reducible refine kn_load_if E.out rfl rfl rfl rfl ?_)) | ((with_reducible refine kn_loads E.out rfl rfl rfl ?_ ?_); (focus (first | rfl | (simp only [i64s_length, u8s_length]; first | rfl | assumption | omega)))) | ((with_reducible refine kn_loads_if E.out rfl rfl rfl ?_ ?_); (focus (first | rfl | (simp only [i64s_length, u8s_length]; first | rfl | assumption | omega)))) | ((with_reducible refine kn_stores E.out rfl rfl rfl rfl rfl ?_ ?_ ?_); (focus (first | exact ⟨rfl, rfl⟩ | (simp only [i64s_length, u8s_length]; refine ⟨?_, ?_⟩ <;> first | rfl | assumption | omega))); (focus (first | exact i64s_one _ | exact u8s_one _ | simp [Value.oneCell'])); clear E; intro u E0; have E := Lib.hid E0; clear E0))
    go_ret
    exact ⟨rfl, E.out.bel⟩
end Go.Proofs.YtgcijioiicmjiaaDoor
