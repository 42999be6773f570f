/- The chain of halves where there is none; the chain by the reference. -/
import Derived.Test.YtbpdaijmclcbdaaMpChain
namespace Go.Proofs.Ytbpdaijmclcbdaa
open Go.RowKit
open Im Mp

theorem Imgs.nil (w : World) : Imgs w (.slice none 0 0) [] := ⟨none, 0, [], rfl, Rs.nil _ _ _, rfl, fun i t h => by simp at h⟩
set_option maxHeartbeats 2000000 in
theorem chain_no (W H : Int) (A : Option Addr) (n c : Nat) (m : Int) (w : World) (hn : n ≤ 67108864) (hW : W ≤ 9223372036854775807) (hH : H ≤ 9223372036854775807) (hp : ¬ chP W H n m) :
    Calls Try.prog 25 #[img W H A n c, .int .i64 m] w fun e w' => e = .returned (.tuple #[.slice none 0 0, .int .i64 1]) ∧ Below w.heap.size w w' := by
  have E := Lib.hid (Kn.start w)
  have hR := Lib.hid (fun u => right_any W H A n c u (by omega))
  have hL := Lib.hid (fun u => levels_any W H u hW hH)
  by_cases hr : rightP W H n
  · rw [decide_eq_true hr] at hR
    by_cases h1 : m < 1
    · have hd1 : decide (m < 1) = true := by simp; omega
      clear hp hr
      go_enter Try.func25, Try.ntmps25
      go_wp2_with (first
        | (go_at_call 20; refine (hR.out _).mono ?_; rintro e w1 ⟨rfl, hb⟩; have E1 := Lib.hid (E.out.later hb); clear hb E; have E := E1; clear E1)
        | ((with_reducible refine kn_load E.out rfl rfl rfl rfl ?_)) | ((with_reducible refine kn_load_if E.out rfl rfl rfl rfl ?_)) | ((with_reducible refine kn_loads E.out rfl rfl rfl ?_ ?_); (focus (first | rfl | (simp only [i64s_length, u8s_length]; first | rfl | assumption | omega)))) | ((with_reducible refine kn_loads_if E.out rfl rfl rfl ?_ ?_); (focus (first | rfl | (simp only [i64s_length, u8s_length]; first | rfl | assumption | omega)))) | ((with_reducible refine kn_store1_int E.out rfl rfl rfl rfl rfl ?_); clear E; intro u E0; have E := Lib.hid E0; clear E0) | ((with_reducible refine kn_store1_slice E.out rfl rfl rfl rfl rfl ?_); clear E; intro u E0; have E := Lib.hid E0; clear E0) | ((with_reducible refine kn_store1_bool E.out rfl rfl rfl rfl rfl ?_); clear E; intro u E0; have E := Lib.hid E0; clear E0) | ((with_reducible refine kn_stores E.out rfl rfl rfl rfl rfl ?_ ?_ ?_); (focus (first | exact ⟨rfl, rfl⟩ | (simp only [i64s_length, u8s_length]; refine ⟨?_, ?_⟩ <;> first | rfl | assumption | omega))); (focus (first | exact i64s_one _ | exact u8s_one _ | simp [Value.oneCell'])); clear E; intro u E0; have E := Lib.hid E0; clear E0) | ((with_reducible refine kn_alloc E.out rfl rfl ?_); clear E; intro g u E0 hb0; have E := Lib.hid E0; clear E0 hb0) | ((with_reducible refine kn_box E.out rfl rfl rfl ?_); clear E; intro g u E0 hb0; have E := Lib.hid E0; clear E0 hb0) | ((with_reducible refine kn_box_int E.out rfl rfl rfl ?_); clear E; intro g u E0 hb0; have E := Lib.hid E0; clear E0 hb0) | ((with_reducible refine kn_box_slice E.out rfl rfl rfl ?_); clear E; intro g u E0 hb0; have E := Lib.hid E0; clear E0 hb0) | ((with_reducible refine kn_box_bool E.out rfl rfl rfl ?_); clear E; intro g u E0 hb0; have E := Lib.hid E0; clear E0 hb0) | ((with_reducible refine kn_box_func E.out rfl rfl rfl ?_); clear E; intro g u E0 hb0; have E := Lib.hid E0; clear E0 hb0))
      go_ret2
      exact ⟨rfl, E.out.bel⟩
    · have hd1 : decide (m < 1) = false := by simp; omega
      have h2 : lvV W H < m := by
        by_cases h : lvV W H < m
        · exact h
        · exact absurd ⟨hr, by omega, by omega⟩ hp
      have hd2 : decide (lvV W H < m) = true := by simp; omega
      clear hp hr
      generalize lvV W H = L at *
      go_enter Try.func25, Try.ntmps25
      go_wp2_with (first
        | (go_at_call 20; refine (hR.out _).mono ?_; rintro e w1 ⟨rfl, hb⟩; have E1 := Lib.hid (E.out.later hb); clear hb E; have E := E1; clear E1)
        | (go_at_call 27; refine (hL.out _).mono ?_; rintro e w2 ⟨rfl, hb⟩; have E1 := Lib.hid (E.out.later hb); clear hb E; have E := E1; clear E1)
        | ((with_reducible refine kn_load E.out rfl rfl rfl rfl ?_)) | ((with_reducible refine kn_load_if E.out rfl rfl rfl rfl ?_)) | ((with_reducible refine kn_loads E.out rfl rfl rfl ?_ ?_); (focus (first | rfl | (simp only [i64s_length, u8s_length]; first | rfl | assumption | omega)))) | ((with_reducible refine kn_loads_if E.out rfl rfl rfl ?_ ?_); (focus (first | rfl | (simp only [i64s_length, u8s_length]; first | rfl | assumption | omega)))) | ((with_reducible refine kn_store1_int E.out rfl rfl rfl rfl rfl ?_); clear E; intro u E0; have E := Lib.hid E0; clear E0) | ((with_reducible refine kn_store1_slice E.out rfl rfl rfl rfl rfl ?_); clear E; intro u E0; have E := Lib.hid E0; clear E0) | ((with_reducible refine kn_store1_bool E.out rfl rfl rfl rfl rfl ?_); clear E; intro u E0; have E := Lib.hid E0; clear E0) | ((with_reducible refine kn_stores E.out rfl rfl rfl rfl rfl ?_ ?_ ?_); (focus (first | exact ⟨rfl, rfl⟩ | (simp only [i64s_length, u8s_length]; refine ⟨?_, ?_⟩ <;> first | rfl | assumption | omega))); (focus (first | exact i64s_one _ | exact u8s_one _ | simp [Value.oneCell'])); clear E; intro u E0; have E := Lib.hid E0; clear E0) | ((with_reducible refine kn_alloc E.out rfl rfl ?_); clear E; intro g u E0 hb0; have E := Lib.hid E0; clear E0 hb0) | ((with_reducible refine kn_box E.out rfl rfl rfl ?_); clear E; intro g u E0 hb0; have E := Lib.hid E0; clear E0 hb0) | ((with_reducible refine kn_box_int E.out rfl rfl rfl ?_); clear E; intro g u E0 hb0; have E := Lib.hid E0; clear E0 hb0) | ((with_reducible refine kn_box_slice E.out rfl rfl rfl ?_); clear E; intro g u E0 hb0; have E := Lib.hid E0; clear E0 hb0) | ((with_reducible refine kn_box_bool E.out rfl rfl rfl ?_); clear E; intro g u E0 hb0; have E := Lib.hid E0; clear E0 hb0) | ((with_reducible refine kn_box_func E.out rfl rfl rfl ?_); clear E; intro g u E0 hb0; have E := Lib.hid E0; clear E0 hb0))
      go_ret2
      exact ⟨rfl, E.out.bel⟩
  · rw [decide_eq_false hr] at hR
    clear hp hr
    go_enter Try.func25, Try.ntmps25
    go_wp2_with (first
      | (go_at_call 20; refine (hR.out _).mono ?_; rintro e w1 ⟨rfl, hb⟩; have E1 := Lib.hid (E.out.later hb); clear hb E; have E := E1; clear E1)
      | ((with_reducible refine kn_load E.out rfl rfl rfl rfl ?_)) | ((with_reducible refine kn_load_if E.out rfl rfl rfl rfl ?_)) | ((with_reducible refine kn_loads E.out rfl rfl rfl ?_ ?_); (focus (first | rfl | (simp only [i64s_length, u8s_length]; first | rfl | assumption | omega)))) | ((with_reducible refine kn_loads_if E.out rfl rfl rfl ?_ ?_); (focus (first | rfl | (simp only [i64s_length, u8s_length]; first | rfl | assumption | omega)))) | ((with_reducible refine kn_store1_int E.out rfl rfl rfl rfl rfl ?_); clear E; intro u E0; have E := Lib.hid E0; clear E0) | ((with_reducible refine kn_store1_slice E.out rfl rfl rfl rfl rfl ?_); clear E; intro u E0; have E := Lib.hid E0; clear E0) | ((with_reducible refine kn_store1_bool E.out rfl rfl rfl rfl rfl ?_); clear E; intro u E0; have E := Lib.hid E0; clear E0) | ((with_reducible refine kn_stores E.out rfl rfl rfl rfl rfl ?_ ?_ ?_); (focus (first | exact ⟨rfl, rfl⟩ | (simp only [i64s_length, u8s_length]; refine ⟨?_, ?_⟩ <;> first | rfl | assumption | omega))); (focus (first | exact i64s_one _ | exact u8s_one _ | simp [Value.oneCell'])); clear E; intro u E0; have E := Lib.hid E0; clear E0) | ((with_reducible refine kn_alloc E.out rfl rfl ?_); clear E; intro g u E0 hb0; have E := Lib.hid E0; clear E0 hb0) | ((with_reducible refine kn_box E.out rfl rfl rfl ?_); clear E; intro g u E0 hb0; have E := Lib.hid E0; clear E0 hb0) | ((with_reducible refine kn_box_int E.out rfl rfl rfl ?_); clear E; intro g u E0 hb0; have E := Lib.hid E0; clear E0 hb0) | ((with_reducible refine kn_box_slice E.out rfl rfl rfl ?_); clear E; intro g u E0 hb0; have E := Lib.hid E0; clear E0 hb0) | ((with_reducible refine kn_box_bool E.out rfl rfl rfl ?_); clear E; intro g u E0 hb0; have E := Lib.hid E0; clear E0 hb0) | ((with_reducible refine kn_box_func E.out rfl rfl rfl ?_); clear E; intro g u E0 hb0; have E := Lib.hid E0; clear E0 hb0))
    go_ret2
    exact ⟨rfl, E.out.bel⟩
set_option maxHeartbeats 2000000 in
theorem rchain_no (W H : Int) (A : Option Addr) (n c : Nat) (m : Int) (w : World) (hn : n ≤ 67108864) (hW : W ≤ 9223372036854775807) (hH : H ≤ 9223372036854775807) (hp : ¬ chP W H n m) :
    Calls Try.prog 26 #[img W H A n c, .int .i64 m] w fun e w' => e = .returned (.tuple #[.slice none 0 0, .int .i64 1]) ∧ Below w.heap.size w w' := by
  have E := Lib.hid (Kn.start w)
  have hR := Lib.hid (fun u => rright_any W H A n c u (by omega))
  have hL := Lib.hid (fun u => rlevels_any W H u hW hH)
  by_cases hr : rightP W H n
  · rw [decide_eq_true hr] at hR
    by_cases h1 : m < 1
    · have hd1 : decide (m < 1) = true := by simp; omega
      clear hp hr
      go_enter Try.func26, Try.ntmps26
      go_wp2_with (first
        | (go_at_call 51; refine (hR.out _).mono ?_; rintro e w1 ⟨rfl, hb⟩; have E1 := Lib.hid (E.out.later hb); clear hb E; have E := E1; clear E1)
        | ((with_reducible refine kn_load E.out rfl rfl rfl rfl ?_)) | ((with_reducible refine kn_load_if E.out rfl rfl rfl rfl ?_)) | ((with_reducible refine kn_loads E.out rfl rfl rfl ?_ ?_); (focus (first | rfl | (simp only [i64s_length, u8s_length]; first | rfl | assumption | omega)))) | ((with_reducible refine kn_loads_if E.out rfl rfl rfl ?_ ?_); (focus (first | rfl | (simp only [i64s_length, u8s_length]; first | rfl | assumption | omega)))) | ((with_reducible refine kn_store1_int E.out rfl rfl rfl rfl rfl ?_); clear E; intro u E0; have E := Lib.hid E0; clear E0) | ((with_reducible refine kn_store1_slice E.out rfl rfl rfl rfl rfl ?_); clear E; intro u E0; have E := Lib.hid E0; clear E0) | ((with_reducible refine kn_store1_bool E.out rfl rfl rfl rfl rfl ?_); clear E; intro u E0; have E := Lib.hid E0; clear E0) | ((with_reducible refine kn_stores E.out rfl rfl rfl rfl rfl ?_ ?_ ?_); (focus (first | exact ⟨rfl, rfl⟩ | (simp only [i64s_length, u8s_length]; refine ⟨?_, ?_⟩ <;> first | rfl | assumption | omega))); (focus (first | exact i64s_one _ | exact u8s_one _ | simp [Value.oneCell'])); clear E; intro u E0; have E := Lib.hid E0; clear E0) | ((with_reducible refine kn_alloc E.out rfl rfl ?_); clear E; intro g u E0 hb0; have E := Lib.hid E0; clear E0 hb0) | ((with_reducible refine kn_box E.out rfl rfl rfl ?_); clear E; intro g u E0 hb0; have E := Lib.hid E0; clear E0 hb0) | ((with_reducible refine kn_box_int E.out rfl rfl rfl ?_); clear E; intro g u E0 hb0; have E := Lib.hid E0; clear E0 hb0) | ((with_reducible refine kn_box_slice E.out rfl rfl rfl ?_); clear E; intro g u E0 hb0; have E := Lib.hid E0; clear E0 hb0) | ((with_reducible refine kn_box_bool E.out rfl rfl rfl ?_); clear E; intro g u E0 hb0; have E := Lib.hid E0; clear E0 hb0) | ((with_reducible refine kn_box_func E.out rfl rfl rfl ?_); clear E; intro g u E0 hb0; have E := Lib.hid E0; clear E0 hb0))
      go_ret2
      exact ⟨rfl, E.out.bel⟩
    · have hd1 : decide (m < 1) = false := by simp; omega
      have h2 : lvV W H < m := by
        by_cases h : lvV W H < m
        · exact h
        · exact absurd ⟨hr, by omega, by omega⟩ hp
      have hd2 : decide (lvV W H < m) = true := by simp; omega
      clear hp hr
      generalize lvV W H = L at *
      go_enter Try.func26, Try.ntmps26
      go_wp2_with (first
        | (go_at_call 51; refine (hR.out _).mono ?_; rintro e w1 ⟨rfl, hb⟩; have E1 := Lib.hid (E.out.later hb); clear hb E; have E := E1; clear E1)
        | (go_at_call 28; refine (hL.out _).mono ?_; rintro e w2 ⟨rfl, rfl⟩)
        | ((with_reducible refine kn_load E.out rfl rfl rfl rfl ?_)) | ((with_reducible refine kn_load_if E.out rfl rfl rfl rfl ?_)) | ((with_reducible refine kn_loads E.out rfl rfl rfl ?_ ?_); (focus (first | rfl | (simp only [i64s_length, u8s_length]; first | rfl | assumption | omega)))) | ((with_reducible refine kn_loads_if E.out rfl rfl rfl ?_ ?_); (focus (first | rfl | (simp only [i64s_length, u8s_length]; first | rfl | assumption | omega)))) | ((with_reducible refine kn_store1_int E.out rfl rfl rfl rfl rfl ?_); clear E; intro u E0; have E := Lib.hid E0; clear E0) | ((with_reducible refine kn_store1_slice E.out rfl rfl rfl rfl rfl ?_); clear E; intro u E0; have E := Lib.hid E0; clear E0) | ((with_reducible refine kn_store1_bool E.out rfl rfl rfl rfl rfl ?_); clear E; intro u E0; have E := Lib.hid E0; clear E0) | ((with_reducible refine kn_stores E.out rfl rfl rfl rfl rfl ?_ ?_ ?_); (focus (first | exact ⟨rfl, rfl⟩ | (simp only [i64s_length, u8s_length]; refine ⟨?_, ?_⟩ <;> first | rfl | assumption | omega))); (focus (first | exact i64s_one _ | exact u8s_one _ | simp [Value.oneCell'])); clear E; intro u E0; have E := Lib.hid E0; clear E0) | ((with_reducible refine kn_alloc E.out rfl rfl ?_); clear E; intro g u E0 hb0; have E := Lib.hid E0; clear E0 hb0) | ((with_reducible refine kn_box E.out rfl rfl rfl ?_); clear E; intro g u E0 hb0; have E := Lib.hid E0; clear E0 hb0) | ((with_reducible refine kn_box_int E.out rfl rfl rfl ?_); clear E; intro g u E0 hb0; have E := Lib.hid E0; clear E0 hb0) | ((with_reducible refine kn_box_slice E.out rfl rfl rfl ?_); clear E; intro g u E0 hb0; have E := Lib.hid E0; clear E0 hb0) | ((with_reducible refine kn_box_bool E.out rfl rfl rfl ?_); clear E; intro g u E0 hb0; have E := Lib.hid E0; clear E0 hb0) | ((with_reducible refine kn_box_func E.out rfl rfl rfl ?_); clear E; intro g u E0 hb0; have E := Lib.hid E0; clear E0 hb0))
      go_ret2
      exact ⟨rfl, E.out.bel⟩
  · rw [decide_eq_false hr] at hR
    clear hp hr
    go_enter Try.func26, Try.ntmps26
    go_wp2_with (first
      | (go_at_call 51; refine (hR.out _).mono ?_; rintro e w1 ⟨rfl, hb⟩; have E1 := Lib.hid (E.out.later hb); clear hb E; have E := E1; clear E1)
      | ((with_reducible refine kn_load E.out rfl rfl rfl rfl ?_)) | ((with_reducible refine kn_load_if E.out rfl rfl rfl rfl ?_)) | ((with_reducible refine kn_loads E.out rfl rfl rfl ?_ ?_); (focus (first | rfl | (simp only [i64s_length, u8s_length]; first | rfl | assumption | omega)))) | ((with_reducible refine kn_loads_if E.out rfl rfl rfl ?_ ?_); (focus (first | rfl | (simp only [i64s_length, u8s_length]; first | rfl | assumption | omega)))) | ((with_reducible refine kn_store1_int E.out rfl rfl rfl rfl rfl ?_); clear E; intro u E0; have E := Lib.hid E0; clear E0) | ((with_reducible refine kn_store1_slice E.out rfl rfl rfl rfl rfl ?_); clear E; intro u E0; have E := Lib.hid E0; clear E0) | ((with_reducible refine kn_store1_bool E.out rfl rfl rfl rfl rfl ?_); clear E; intro u E0; have E := Lib.hid E0; clear E0) | ((with_reducible refine kn_stores E.out rfl rfl rfl rfl rfl ?_ ?_ ?_); (focus (first | exact ⟨rfl, rfl⟩ | (simp only [i64s_length, u8s_length]; refine ⟨?_, ?_⟩ <;> first | rfl | assumption | omega))); (focus (first | exact i64s_one _ | exact u8s_one _ | simp [Value.oneCell'])); clear E; intro u E0; have E := Lib.hid E0; clear E0) | ((with_reducible refine kn_alloc E.out rfl rfl ?_); clear E; intro g u E0 hb0; have E := Lib.hid E0; clear E0 hb0) | ((with_reducible refine kn_box E.out rfl rfl rfl ?_); clear E; intro g u E0 hb0; have E := Lib.hid E0; clear E0 hb0) | ((with_reducible refine kn_box_int E.out rfl rfl rfl ?_); clear E; intro g u E0 hb0; have E := Lib.hid E0; clear E0 hb0) | ((with_reducible refine kn_box_slice E.out rfl rfl rfl ?_); clear E; intro g u E0 hb0; have E := Lib.hid E0; clear E0 hb0) | ((with_reducible refine kn_box_bool E.out rfl rfl rfl ?_); clear E; intro g u E0 hb0; have E := Lib.hid E0; clear E0 hb0) | ((with_reducible refine kn_box_func E.out rfl rfl rfl ?_); clear E; intro g u E0 hb0; have E := Lib.hid E0; clear E0 hb0))
    go_ret2
    exact ⟨rfl, E.out.bel⟩
/-- The last elements of such a row, loaded as one value. -/
theorem wp_kn_loade {w u : World} {R : List Res} {F : List (World → Prop)} {o : Oper} {a : Act} {Q : Exit → Act → World → Prop} {K : Act → World → Prop} (E : Kn w R F u) {ty : TypeId} {x : Operand} (ho : o.op = .load ty x) {g off : Nat} (hx : a.eval x = .pointer (some ⟨g, off, none⟩)) {n cap size : Nat} {e : TypeId} {ys vs : List Value} [H : HasOwnAt R g n cap e size (ys ++ vs)] {m : Nat} [A : Aggr ty m] (hl : vs.length = m) (hy : ys.length = off)
    (h : K (a.put o.dst (.agg vs.toArray)) u) : o.wp Try.prog a u K Q := by
  obtain ⟨d, hu, hd⟩ := A.desc
  refine wp_load_mid ty x ho g off hx vs d (fun j v hj => own_cell (E.res _ H.h) ?_) hu hd (by rw [A.size, hl]) h
  rw [← hy, List.getElem?_append_right (by omega), Nat.add_sub_cancel_left]
  exact hj
theorem kn_loade {w u : World} {R : List Res} {F : List (World → Prop)} {ops : Array Oper} {rest : List Oper} {o : Oper} {a : Act} {Q : Exit → Act → World → Prop} (E : Kn w R F u) (hgd : o.guard = none) {ty : TypeId} {x : Operand} (ho : o.op = .load ty x) {g off : Nat} (hx : a.eval x = .pointer (some ⟨g, off, none⟩)) {n cap size : Nat} {e : TypeId} {ys vs : List Value} [H : HasOwnAt R g n cap e size (ys ++ vs)] {m : Nat} [A : Aggr ty m] (hl : vs.length = m) (hy : ys.length = off)
    (h : wpList Try.prog ops Q rest (a.put o.dst (.agg vs.toArray)) u) : wpList Try.prog ops Q (o :: rest) a u :=
  wpList_plain hgd fun _ hK => wp_kn_loade E ho hx hl hy (hK _ _ h)
set_option maxHeartbeats 4000000 in
theorem rchain_ok (W H : Int) (b off n c : Nat) (xs : List Nat) (m : Nat) (w : World) (hp : chP W H n (m : Int)) (hB : Bs w w.heap.size (some ⟨b, off, none⟩) n xs) :
    Calls Try.prog 26 #[img W H (some ⟨b, off, none⟩) n c, .int .i64 (m : Int)] w fun e w' => ∃ v', e = .returned (.tuple #[v', .int .i64 0]) ∧ Imgs w' v' (chL W H xs m) ∧ Below w.heap.size w w' := by
  obtain ⟨hr, hm1, hm2⟩ := hp
  have hl := hB.1
  have hn : n ≤ 67108864 := by have h1 := mul_sz hr.1; have h2 := hr.2; have h3 : 4 * W * H = 4 * (W * H) := by rw [Int.mul_assoc]
                               omega
  have hs := hr.1
  unfold szP at hs
  obtain ⟨s1, s2, s3, s4⟩ := hs
  have h0 := right_pos hr
  have hm64 : m ≤ 64 := by
    unfold lvV at hm2
    rw [if_neg (by omega)] at hm2
    have := lv_le 63 W H
    omega
  have E := Lib.hid ((Kn.start w).arg_img (show Img w (img W H (some ⟨b, off, none⟩) n c) W H xs from ⟨_, n, c, rfl, hn, hB⟩))
  have hR := Lib.hid (fun u => rright_any W H (some ⟨b, off, none⟩) n c u (by omega))
  rw [decide_eq_true hr] at hR
  have hL := Lib.hid (fun u => rlevels_any W H u (by omega) (by omega))
  have HR := Lib.hid (show ∀ i, rightP (chA W H xs i).1 (chA W H xs i).2.1 (chA W H xs i).2.2.length from chA_right (by rw [hl]; exact hr))
  have HC0 := Lib.hid (show chA W H xs 0 = (W, H, xs) from rfl)
  have HCS := Lib.hid (fun i => show chA W H xs (i + 1) = (hv (chA W H xs i).1, hv (chA W H xs i).2.1, hf (chA W H xs i).1 (chA W H xs i).2.1 (chA W H xs i).2.2) from rfl)
  have HLS := Lib.hid (chL_succ W H xs)
  have HL0 := Lib.hid (show chL W H xs 0 = [] from rfl)
  have HLL := Lib.hid (chL_length W H xs)
  clear hr hB
  generalize lvV W H = L at *
  have hd1 : decide ((m : Int) < 1) = false := by simp; omega
  have hd2 : decide (L < (m : Int)) = false := by simp; omega
  generalize chL W H xs = cl at *
  generalize chA W H xs = ca at *
  have E1 := Lib.hid E.out.imgs_nil
  clear E
  have E := E1
  clear E1
  go_enter Try.func26, Try.ntmps26
  go_wp2_with (first
    | (go_at_call 51; refine (hR.out _).mono ?_; rintro e w1 ⟨rfl, hb⟩; have E1 := Lib.hid (E.out.later hb); clear hb E; have E := E1; clear E1)
    | (go_at_call 28; refine (hL.out _).mono ?_; rintro e w2 ⟨rfl, rfl⟩)
    | ((with_reducible refine kn_build1 (vs := imL W H (some ⟨b, off, none⟩) n c) E.out rfl rfl rfl ?_ Try.underlying45 info_image ?_ ?_ ?_ ?_); (focus (rfl)); (focus (rfl)); (focus (omega)); (focus (omega)); clear E; intro g7 u E0 hb0; have E := Lib.hid ((E0.row_own g7).snoc (vs := []) (l := []) (W := W) (H := H) (A := some ⟨b, off, none⟩) (n := n) (c := c) (xs := xs) (by simp) (by simp)); clear E0 hb0)
    | ((with_reducible refine kn_load E.out rfl rfl rfl rfl ?_)) | ((with_reducible refine kn_load_if E.out rfl rfl rfl rfl ?_)) | ((with_reducible refine kn_loads E.out rfl rfl rfl ?_ ?_); (focus (first | rfl | (simp only [i64s_length, u8s_length]; first | rfl | assumption | omega)))) | ((with_reducible refine kn_loads_if E.out rfl rfl rfl ?_ ?_); (focus (first | rfl | (simp only [i64s_length, u8s_length]; first | rfl | assumption | omega)))) | ((with_reducible refine kn_store1_int E.out rfl rfl rfl rfl rfl ?_); clear E; intro u E0; have E := Lib.hid E0; clear E0) | ((with_reducible refine kn_store1_slice E.out rfl rfl rfl rfl rfl ?_); clear E; intro u E0; have E := Lib.hid E0; clear E0) | ((with_reducible refine kn_store1_bool E.out rfl rfl rfl rfl rfl ?_); clear E; intro u E0; have E := Lib.hid E0; clear E0) | ((with_reducible refine kn_stores E.out rfl rfl rfl rfl rfl ?_ ?_ ?_); (focus (first | exact ⟨rfl, rfl⟩ | (simp only [i64s_length, u8s_length]; refine ⟨?_, ?_⟩ <;> first | rfl | assumption | omega))); (focus (first | exact i64s_one _ | exact u8s_one _ | simp [Value.oneCell'])); clear E; intro u E0; have E := Lib.hid E0; clear E0) | ((with_reducible refine kn_alloc (o := ⟨some 2, _, _, _, _, _⟩) E.out rfl rfl ?_); clear E; intro g2 u E0 hb0; have E := Lib.hid E0; clear E0 hb0) | ((with_reducible refine kn_box (o := ⟨some 2, _, _, _, _, _⟩) E.out rfl rfl rfl ?_); clear E; intro g2 u E0 hb0; have E := Lib.hid E0; clear E0 hb0) | ((with_reducible refine kn_box_int (o := ⟨some 2, _, _, _, _, _⟩) E.out rfl rfl rfl ?_); clear E; intro g2 u E0 hb0; have E := Lib.hid E0; clear E0 hb0) | ((with_reducible refine kn_box_slice (o := ⟨some 2, _, _, _, _, _⟩) E.out rfl rfl rfl ?_); clear E; intro g2 u E0 hb0; have E := Lib.hid E0; clear E0 hb0) | ((with_reducible refine kn_box_bool (o := ⟨some 2, _, _, _, _, _⟩) E.out rfl rfl rfl ?_); clear E; intro g2 u E0 hb0; have E := Lib.hid E0; clear E0 hb0) | ((with_reducible refine kn_box_func (o := ⟨some 2, _, _, _, _, _⟩) E.out rfl rfl rfl ?_); clear E; intro g2 u E0 hb0; have E := Lib.hid E0; clear E0 hb0) | ((with_reducible refine kn_alloc E.out rfl rfl ?_); clear E; intro g u E0 hb0; have E := Lib.hid E0; clear E0 hb0) | ((with_reducible refine kn_box E.out rfl rfl rfl ?_); clear E; intro g u E0 hb0; have E := Lib.hid E0; clear E0 hb0) | ((with_reducible refine kn_box_int E.out rfl rfl rfl ?_); clear E; intro g u E0 hb0; have E := Lib.hid E0; clear E0 hb0) | ((with_reducible refine kn_box_slice E.out rfl rfl rfl ?_); clear E; intro g u E0 hb0; have E := Lib.hid E0; clear E0 hb0) | ((with_reducible refine kn_box_bool E.out rfl rfl rfl ?_); clear E; intro g u E0 hb0; have E := Lib.hid E0; clear E0 hb0) | ((with_reducible refine kn_box_func E.out rfl rfl rfl ?_); clear E; intro g u E0 hb0; have E := Lib.hid E0; clear E0 hb0))
  go_loopw [7, 6] (fun v7 v wr => ∃ (i gl c7 : Nat) (vs ys : List Value) (A6 : Option Addr) (n6 c6 : Nat), i + 1 ≤ m ∧ v7 = .int .i64 ((i : Int) + 1) ∧ v = .slice (some ⟨gl, 0, none⟩) (i + 1) c7 ∧ ys.length = i * 3 ∧ cellsOf vs = ys ++ imL (ca i).1 (ca i).2.1 A6 n6 c6 ∧ Hid (Kn w [.own 24 3 (.slice (some ⟨gl, 0, none⟩) (i + 1) c7) (i + 1) (ys ++ imL (ca i).1 (ca i).2.1 A6 n6 c6), .row g2 24 (imL W H (some ⟨b, off, none⟩) n c)] [imgsF vs (cl (i + 1)), imgF (img (ca i).1 (ca i).2.1 A6 n6 c6) (ca i).1 (ca i).2.1 (ca i).2.2] wr)) (fun _ v _ => m - lenOf v)
  case atStart => exact ⟨0, g7, 1, [img W H (some ⟨b, off, none⟩) n c], [], some ⟨b, off, none⟩, n, c, by omega, rfl, rfl, rfl, by rw [HC0.out]; rfl, by rw [HLS.out 0, HL0.out, HC0.out]; exact E.out.part _ _ (List.Sublist.refl _) (by simp)⟩
  case round =>
    clear E hR hL
    obtain ⟨i, gl, c7, vs, ys, A6', n6, c6', him, rfl, rfl, hyl, hce, E⟩ := hrel
    have hce := Lib.hid hce
    by_cases hlt : i + 1 < m
    · have hRi := HR.out i
      have hCi := Lib.hid (HCS.out i)
      have hLi := Lib.hid (HLS.out (i + 1))
      rcases hci : ca i with ⟨Wi, Hi, xi⟩
      rw [hci] at E hRi hCi hce
      have E1 := Lib.hid (show Kn w [.own 24 3 (.slice (some ⟨gl, 0, none⟩) (i + 1) c7) (i + 1) (ys ++ imL Wi Hi A6' n6 c6'), .row g2 24 (imL W H (some ⟨b, off, none⟩) n c)] [imgsF vs (cl (i + 1)), imgF (img Wi Hi A6' n6 c6') Wi Hi xi] wr from E.out)
      have hBs := Img.bs (E1.out.img (v := img Wi Hi A6' n6 c6'))
      have hri : rightP Wi Hi n6 := by have h := hBs.1; rw [← h]; exact hRi
      have hHf := Lib.hid (fun (u : World) (hu : Bs u u.heap.size A6' n6 xi) => rhalf_ok Wi Hi A6' n6 c6' xi u hri hu)
      have HCi := Lib.hid (show ca (i + 1) = (hv Wi, hv Hi, hf Wi Hi xi) from hCi.out)
      have hce1 := Lib.hid (show cellsOf vs = ys ++ imL Wi Hi A6' n6 c6' from hce.out)
      clear E hBs hri hRi hci hCi hce
      have E := E1
      clear E1
      generalize hv Wi = W2 at *
      generalize hv Hi = H2 at *
      generalize hf Wi Hi xi = x2 at *
      go_wp2_with (first
        | ((with_reducible refine kn_loade (g := gl) (off := i * 3) (ys := ys) (vs := imL Wi Hi A6' n6 c6') E.out rfl rfl ?_ ?_ hyl ?_); (focus (rfl)); (focus (rfl)))
        | (go_at_call 24; refine (hHf.out _ (Img.bs (E.out.img (v := img Wi Hi A6' n6 c6')))).mono ?_; rintro e w7 ⟨v2, rfl, hI, hb⟩; have E1 := Lib.hid (E.out.fresh_img hb hI); clear hb E; have E := E1; clear E1; obtain ⟨A2, n2, c2, rfl, hn2, hB2, hf2⟩ := hI; clear hf2 hB2 hn2)
        | ((with_reducible refine kn_build1 (vs := imL W2 H2 A2 n2 c2) E.out rfl rfl rfl ?_ Try.underlying45 info_image ?_ ?_ ?_ ?_); (focus (rfl)); (focus (rfl)); (focus (omega)); (focus (omega)); clear E; intro g9 u E0 hb0; have E := Lib.hid E0; clear E0 hb0)
        | ((with_reducible refine kn_append_row E.out rfl rfl ?_ Try.underlying45 info_image ?_ ?_ rfl ?_ ?_ ?_ ?_ ?_); (focus (rfl)); (focus (rfl)); (focus (omega)); (focus (rfl)); (focus (simp [Value.oneCell'])); (focus (unfold maxLen; omega)); (focus (omega)); clear E; intro v' u' E0; obtain ⟨gn, cn, rfl⟩ := own_shape (E0.own (v := v')) (by omega); have E := Lib.hid (E0.snoc (vs := vs) (l := cl (i + 1)) (W := W2) (H := H2) (A := A2) (n := n2) (c := c2) (xs := x2) (by simp) (by simp)); clear E0)
        | ((with_reducible refine kn_load E.out rfl rfl rfl rfl ?_)) | ((with_reducible refine kn_load_if E.out rfl rfl rfl rfl ?_)) | ((with_reducible refine kn_loads E.out rfl rfl rfl ?_ ?_); (focus (first | rfl | (simp only [i64s_length, u8s_length]; first | rfl | assumption | omega)))) | ((with_reducible refine kn_loads_if E.out rfl rfl rfl ?_ ?_); (focus (first | rfl | (simp only [i64s_length, u8s_length]; first | rfl | assumption | omega)))) | ((with_reducible refine kn_store1_int E.out rfl rfl rfl rfl rfl ?_); clear E; intro u E0; have E := Lib.hid E0; clear E0) | ((with_reducible refine kn_store1_slice E.out rfl rfl rfl rfl rfl ?_); clear E; intro u E0; have E := Lib.hid E0; clear E0) | ((with_reducible refine kn_store1_bool E.out rfl rfl rfl rfl rfl ?_); clear E; intro u E0; have E := Lib.hid E0; clear E0) | ((with_reducible refine kn_stores E.out rfl rfl rfl rfl rfl ?_ ?_ ?_); (focus (first | exact ⟨rfl, rfl⟩ | (simp only [i64s_length, u8s_length]; refine ⟨?_, ?_⟩ <;> first | rfl | assumption | omega))); (focus (first | exact i64s_one _ | exact u8s_one _ | simp [Value.oneCell'])); clear E; intro u E0; have E := Lib.hid E0; clear E0) | ((with_reducible refine kn_alloc E.out rfl rfl ?_); clear E; intro g u E0 hb0; have E := Lib.hid E0; clear E0 hb0) | ((with_reducible refine kn_box E.out rfl rfl rfl ?_); clear E; intro g u E0 hb0; have E := Lib.hid E0; clear E0 hb0) | ((with_reducible refine kn_box_int E.out rfl rfl rfl ?_); clear E; intro g u E0 hb0; have E := Lib.hid E0; clear E0 hb0) | ((with_reducible refine kn_box_slice E.out rfl rfl rfl ?_); clear E; intro g u E0 hb0; have E := Lib.hid E0; clear E0 hb0) | ((with_reducible refine kn_box_bool E.out rfl rfl rfl ?_); clear E; intro g u E0 hb0; have E := Lib.hid E0; clear E0 hb0) | ((with_reducible refine kn_box_func E.out rfl rfl rfl ?_); clear E; intro g u E0 hb0; have E := Lib.hid E0; clear E0 hb0))
      go_roundw
      case rel => exact ⟨i + 1, gn, cn, vs ++ [img W2 H2 A2 n2 c2], ys ++ imL Wi Hi A6' n6 c6', A2, n2, c2, by omega, by simp, rfl, by rw [List.length_append, hyl]; show i * 3 + 3 = _; omega, by rw [HCi.out, cellsOf_snoc, hce1.out]; rfl, by rw [hLi.out, HCi.out]; exact E.out.part _ _ (by repeat (first | exact List.Sublist.refl _ | apply List.Sublist.cons_cons | apply List.Sublist.cons)) (by simp)⟩
      case measure => simp [lenOf]; omega
    · obtain rfl : i + 1 = m := by omega
      go_wp2_with (first | ((with_reducible refine kn_load E.out rfl rfl rfl rfl ?_)) | ((with_reducible refine kn_load_if E.out rfl rfl rfl rfl ?_)) | ((with_reducible refine kn_loads E.out rfl rfl rfl ?_ ?_); (focus (first | rfl | (simp only [i64s_length, u8s_length]; first | rfl | assumption | omega)))) | ((with_reducible refine kn_loads_if E.out rfl rfl rfl ?_ ?_); (focus (first | rfl | (simp only [i64s_length, u8s_length]; first | rfl | assumption | omega)))) | ((with_reducible refine kn_store1_int E.out rfl rfl rfl rfl rfl ?_); clear E; intro u E0; have E := Lib.hid E0; clear E0) | ((with_reducible refine kn_store1_slice E.out rfl rfl rfl rfl rfl ?_); clear E; intro u E0; have E := Lib.hid E0; clear E0) | ((with_reducible refine kn_store1_bool E.out rfl rfl rfl rfl rfl ?_); clear E; intro u E0; have E := Lib.hid E0; clear E0) | ((with_reducible refine kn_stores E.out rfl rfl rfl rfl rfl ?_ ?_ ?_); (focus (first | exact ⟨rfl, rfl⟩ | (simp only [i64s_length, u8s_length]; refine ⟨?_, ?_⟩ <;> first | rfl | assumption | omega))); (focus (first | exact i64s_one _ | exact u8s_one _ | simp [Value.oneCell'])); clear E; intro u E0; have E := Lib.hid E0; clear E0) | ((with_reducible refine kn_alloc E.out rfl rfl ?_); clear E; intro g u E0 hb0; have E := Lib.hid E0; clear E0 hb0) | ((with_reducible refine kn_box E.out rfl rfl rfl ?_); clear E; intro g u E0 hb0; have E := Lib.hid E0; clear E0 hb0) | ((with_reducible refine kn_box_int E.out rfl rfl rfl ?_); clear E; intro g u E0 hb0; have E := Lib.hid E0; clear E0 hb0) | ((with_reducible refine kn_box_slice E.out rfl rfl rfl ?_); clear E; intro g u E0 hb0; have E := Lib.hid E0; clear E0 hb0) | ((with_reducible refine kn_box_bool E.out rfl rfl rfl ?_); clear E; intro g u E0 hb0; have E := Lib.hid E0; clear E0 hb0) | ((with_reducible refine kn_box_func E.out rfl rfl rfl ?_); clear E; intro g u E0 hb0; have E := Lib.hid E0; clear E0 hb0))
      go_ret2
      refine ⟨_, rfl, ?_, E.out.bel⟩
      refine ⟨_, c7, vs, by rw [HLL.out]; rfl, ?_, E.out.get (f := imgsF vs (cl (i + 1))) (by simp)⟩
      rw [HLL.out, hce.out]
      exact rs_of_own (E.out.own (v := .slice (some ⟨gl, 0, none⟩) (i + 1) c7))
end Go.Proofs.Ytbpdaijmclcbdaa
