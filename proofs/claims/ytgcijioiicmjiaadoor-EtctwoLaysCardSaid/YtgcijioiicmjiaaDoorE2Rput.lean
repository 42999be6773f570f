/- ETC2 blocks, the document's: a block's bits put one by one, and numbers one behind the other. -/
import Derived.Test.YtgcijioiicmjiaaDoorE2Rsm
import Derived.Test.YtgcijioiicmjiaaDoorG10
import Derived.Test.YtgcijioiicmjiaaDoorE2Put
set_option linter.all false
namespace Go.Proofs.YtgcijioiicmjiaaDoor
open Go.RowKit
open Bi Lv Eo Et
open Bc (z8 z8_lt)

namespace Et
/-- The bits of a block behind k steps: the last k places hold bits of a number. -/
def gS (g : Nat → Bool) (ls : List Nat) (N : Nat) : Nat → Nat → Bool
  | 0 => g
  | k + 1 => fun i => if i = ls.getD (ls.length - 1 - k) 0 then (N / 2 ^ k % 2).testBit 0 else gS g ls N k i
def byt (g : Nat → Bool) : List Nat := lay z8 true 0 64 g
theorem by_length (g : Nat → Bool) : (byt g).length = 8 := lay8_length g
theorem by_step (g : Nat → Bool) (ls : List Nat) (N k : Nat) (hp : ls.getD (ls.length - 1 - k) 0 < 64) : st (byt (gS g ls N k)) true (ls.getD (ls.length - 1 - k) 0) 1 (N / 2 ^ k % 2) = byt (gS g ls N (k + 1)) := by
  refine st8 _ _ (by omega) fun i hi => ?_
  show (if i = ls.getD (ls.length - 1 - k) 0 then (N / 2 ^ k % 2).testBit 0 else gS g ls N k i) = _
  by_cases h : i = ls.getD (ls.length - 1 - k) 0
  · rw [if_pos h, if_pos (by omega), show 1 - 1 - (i - ls.getD (ls.length - 1 - k) 0) = 0 by omega]
  · rw [if_neg h, if_neg (by omega)]
theorem half_step (N k : Nat) : N / 2 ^ k / 2 = N / 2 ^ (k + 1) := by rw [Nat.div_div_eq_div_mul, Nat.pow_succ]
end Et
set_option maxHeartbeats 4000000 in
set_option maxRecDepth 100000 in
theorem put11 (A : Option Addr) (c : Nat) (g : Nat → Bool) (gl m ml : Nat) (ls : List Nat) (N : Nat) (w : World) (hc : 8 ≤ c ∧ c ≤ 9223372036854775807) (h : Bs w w.heap.size A 8 (byt g)) (hg : cellsF gl (i64s (ints ls)) w) (hm : ls.length = m) (h16 : m ≤ 16) (hl : ∀ i ∈ ls, i < 64) (hN : N < 65536) :
    Calls Tryd.prog 38 #[.slice A 8 c, .slice (some ⟨gl, 0, none⟩) m ml, .int .i64 (N : Int)] w fun e w' => ∃ A' c', e = .returned (.slice A' 8 c') ∧ (8 ≤ c' ∧ c' ≤ 9223372036854775807) ∧ Bs w' w'.heap.size A' 8 (byt (gS g ls N m)) ∧ Below w.heap.size w w' := by
  have E := Lib.hid (((Kn.start w).arg_bs h).arg_cells hg)
  have HI := Lib.hid (fun i (hi : i < m) => ints_getElem? ls i (by omega))
  have HP : ∀ k, k < m → ls.getD (ls.length - 1 - k) 0 < 64 := fun k hk => by
    rw [List.getD_eq_getElem?_getD, List.getElem?_eq_getElem (by omega)]
    exact hl _ (List.getElem_mem _)
  have HS := Lib.hid (fun k (hk : k < m) => by_step g ls N k (HP k hk))
  have HQ := Lib.hid (fun k => half_step N k)
  have HN := Lib.hid (fun k => Nat.div_le_self N (2 ^ k))
  have HL := Lib.hid (fun k => by_length (gS g ls N k))
  have HSt := Lib.hid (fun (A : Option Addr) (c k : Nat) (hk : k < m) (u : World) (hu : Bs u u.heap.size A 8 (byt (gS g ls N k))) => show Calls Tryd.prog 61 #[.slice A 8 c, .int .i64 ((ls.getD (m - 1 - k) 0 : Nat) : Int), .int .i64 1, .bool true, .int .u64 (((N / 2 ^ k : Nat) : Int) % 2)] u (Laid u (byt (gS g ls N (k + 1))) 0) from by
    have hp := HP k hk
    rw [hm] at hp
    have e := rset_any A 8 c ((ls.getD (m - 1 - k) 0 : Nat) : Int) ((1 : Nat) : Int) true (N / 2 ^ k % 2) (byt (gS g ls N k)) u hu (by omega) (by omega)
    have e0 : setE 8 ((ls.getD (m - 1 - k) 0 : Nat) : Int) ((1 : Nat) : Int) (N / 2 ^ k % 2) = 0 := setE_high (by omega) (by omega)
    rw [e0, setV_ok (by_length _) e0] at e
    have s := HS.out k hk
    rw [hm] at s
    rw [s] at e
    exact e)
  have h0 := Lib.hid (show gS g ls N 0 = g from rfl)
  have hN0 := Lib.hid (show N / 2 ^ 0 = N from by rw [Nat.pow_zero, Nat.div_one])
  clear h hg hm hl HP HS
  generalize i64s (ints ls) = LS at *
  generalize gS g ls N = GS at *
  obtain ⟨QN, hQN⟩ : ∃ f : Nat → Nat, ∀ k, N / 2 ^ k = f k := ⟨fun k => N / 2 ^ k, fun _ => rfl⟩
  simp only [hQN] at HQ HN HSt hN0
  clear hQN
  go_enter Tryd.func38, Tryd.ntmps38
  go_wp2_with (first | ((with_reducible refine kn_load E.out rfl rfl rfl rfl ?_)) | ((with_reducible refine kn_load_if E.out rfl rfl rfl rfl ?_)) | ((with_reducible refine kn_loads E.out rfl rfl rfl ?_ ?_); (focus (first | rfl | (simp only [i64s_length, u8s_length]; first | rfl | assumption | omega)))) | ((with_reducible refine kn_loads_if E.out rfl rfl rfl ?_ ?_); (focus (first | rfl | (simp only [i64s_length, u8s_length]; first | rfl | assumption | omega)))) | ((with_reducible refine kn_stores E.out rfl rfl rfl rfl rfl ?_ ?_ ?_); (focus (first | exact ⟨rfl, rfl⟩ | (simp only [i64s_length, u8s_length]; refine ⟨?_, ?_⟩ <;> first | rfl | assumption | omega))); (focus (first | exact i64s_one _ | exact u8s_one _ | simp [Value.oneCell'])); clear E; intro u E0; have E := Lib.hid E0; clear E0))
  go_loopw [0, 2, 7] (fun bk nk ck wr => ∃ (k : Nat) (A1 : Option Addr) (c1 : Nat), k ≤ m ∧ ck = .int .i64 ((m : Int) - 1 - (k : Int)) ∧ nk = .int .i64 ((QN k : Nat) : Int) ∧ bk = .slice A1 8 c1 ∧ (8 ≤ c1 ∧ c1 ≤ 9223372036854775807) ∧ Hid (Kn w [] [bsF A1 8 (byt (GS k)), cellsF gl LS] wr)) (fun _ _ ck _ => ((intOf ck) + 1).toNat)
  case atStart => exact ⟨0, A, c, by omega, by simp; try omega, by rw [hN0.out], rfl, hc, by rw [h0.out]; exact E.out.part _ _ (by repeat (first | exact List.Sublist.refl _ | apply List.Sublist.cons_cons | apply List.Sublist.cons)) (by simp)⟩
  case round =>
    clear E
    obtain ⟨k, A1, c1, hk, rfl, rfl, rfl, hc1, E⟩ := hrel
    by_cases hlt : k < m
    · have hge : (0 : Int) ≤ (m : Int) - 1 - (k : Int) := by omega
      have hi1 : ((m : Int) - 1 - (k : Int)).toNat = m - 1 - k := by omega
      have hi2 : (m : Int) - 1 - (k : Int) = ((m - 1 - k : Nat) : Int) := by omega
      have hlm : ((m - 1 - k : Nat) : Int) < (m : Int) := by omega
      have hv := Lib.hid (HI.out (m - 1 - k) (by omega))
      have hq := HQ.out k
      have hn := HN.out k
      have hst := Lib.hid (fun A c u hu => HSt.out A c k hlt u hu)
      have hyl := Lib.hid (HL.out (k + 1))
      clear HI HQ HN HSt h0 hN0 HL
      obtain ⟨q, hqk⟩ : ∃ z, QN k = z := ⟨_, rfl⟩
      rw [hqk] at hq hn hst ⊢
      clear hqk
      have r1 : ((q : Nat) : Int).tmod 2 = ((q % 2 : Nat) : Int) := by rw [Int.tmod_eq_emod_of_nonneg (by omega)]; omega
      have r2 : ((q : Nat) : Int).tdiv 2 = ((q / 2 : Nat) : Int) := by rw [Int.tdiv_eq_ediv_of_nonneg (by omega)]; omega
      have hu := uw_small (z := ((q % 2 : Nat) : Int)) (by omega)
      rw [Int.toNat_natCast] at hu
      rw [hi2] at hge ⊢
      generalize ls.getD (m - 1 - k) 0 = pp at *
      go_wp2_with (first
        | ((with_reducible refine kn_gload (g := gl) (i := m - 1 - k) E.out rfl rfl ?hx ?h1 hv.out ?_); (case hx => first | rfl | simp); (case h1 => simp))
        | (go_at_call 61; (try rw [hu]); (with_reducible refine (hst.out _ _ _ ?ha).mono ?_); (case ha => exact E.out.bs (by simp)); clear hst; rintro e w1 ⟨A2, n2, c2, rfl, hB1, hn2, hc2, hb⟩; obtain rfl : n2 = 8 := hB1.1.symm.trans hyl.out; have E1 := Lib.hid (E.out.later hb); clear hb E; have E := E1; clear E1; have E1 := Lib.hid (E.out.new_bsi hB1); clear E hB1; have E := E1; clear E1)
        | ((with_reducible refine kn_load E.out rfl rfl rfl rfl ?_)) | ((with_reducible refine kn_load_if E.out rfl rfl rfl rfl ?_)) | ((with_reducible refine kn_loads E.out rfl rfl rfl ?_ ?_); (focus (first | rfl | (simp only [i64s_length, u8s_length]; first | rfl | assumption | omega)))) | ((with_reducible refine kn_loads_if E.out rfl rfl rfl ?_ ?_); (focus (first | rfl | (simp only [i64s_length, u8s_length]; first | rfl | assumption | omega)))) | ((with_reducible refine kn_stores E.out rfl rfl rfl rfl rfl ?_ ?_ ?_); (focus (first | exact ⟨rfl, rfl⟩ | (simp only [i64s_length, u8s_length]; refine ⟨?_, ?_⟩ <;> first | rfl | assumption | omega))); (focus (first | exact i64s_one _ | exact u8s_one _ | simp [Value.oneCell'])); clear E; intro u E0; have E := Lib.hid E0; clear E0))
      go_roundw
      case rel => exact ⟨k + 1, A2, c2, by omega, by first | (rw [← hi2]; done) | (congr 1; omega) | trace_state, by rw [← hq], rfl, ⟨hn2, hc2⟩, E.out.part _ _ (by repeat (first | exact List.Sublist.refl _ | apply List.Sublist.cons_cons | apply List.Sublist.cons)) (by simp)⟩
      case measure => simp [intOf]; try omega
    · have hge : ¬ ((0 : Int) ≤ (m : Int) - 1 - (k : Int)) := by omega
      obtain rfl : k = m := by omega
      go_wp2_with (first | ((with_reducible refine kn_load E.out rfl rfl rfl rfl ?_)) | ((with_reducible refine kn_load_if E.out rfl rfl rfl rfl ?_)) | ((with_reducible refine kn_loads E.out rfl rfl rfl ?_ ?_); (focus (first | rfl | (simp only [i64s_length, u8s_length]; first | rfl | assumption | omega)))) | ((with_reducible refine kn_loads_if E.out rfl rfl rfl ?_ ?_); (focus (first | rfl | (simp only [i64s_length, u8s_length]; first | rfl | assumption | omega)))) | ((with_reducible refine kn_stores E.out rfl rfl rfl rfl rfl ?_ ?_ ?_); (focus (first | exact ⟨rfl, rfl⟩ | (simp only [i64s_length, u8s_length]; refine ⟨?_, ?_⟩ <;> first | rfl | assumption | omega))); (focus (first | exact i64s_one _ | exact u8s_one _ | simp [Value.oneCell'])); clear E; intro u E0; have E := Lib.hid E0; clear E0))
      go_ret
      exact ⟨A1, c1, rfl, hc1, E.out.bs (by simp), E.out.bel⟩
namespace Et
def spL (a j : Nat) : List Nat := (List.range j).map (a + ·)
theorem spL_next (a j : Nat) : i64s (ints (spL a j)) ++ i64s [((a + j : Nat) : Int)] = i64s (ints (spL a (j + 1))) := by
  rw [← i64s_append]
  unfold spL ints
  rw [List.range_succ, List.map_append, List.map_append]
  rfl
end Et
theorem inf_int : (Tryd.prog.info? 3).map (fun i => (i.zero, i.size, i.bytes)) = some (some (.int .i64 0), 1, 8) := by kernel_rfl
set_option maxHeartbeats 4000000 in
set_option maxRecDepth 100000 in
theorem span11 (a b m : Nat) (hm : a + m = b + 1) (h0 : 1 ≤ m) (h64 : b < 64) (w : World) :
    Calls Tryd.prog 39 #[.int .i64 (a : Int), .int .i64 (b : Int)] w fun e w' => ∃ g c, e = .returned (.slice (some ⟨g, 0, none⟩) m c) ∧ cellsF g (i64s (ints (spL a m))) w' ∧ w.heap.size ≤ g ∧ Below w.heap.size w w' := by
  have E := Lib.hid ((Kn.start w).own_nil 3 1)
  have HN := Lib.hid (fun j => spL_next a j)
  have hs0 := Lib.hid (show i64s (ints (spL a 0)) = [] from rfl)
  obtain ⟨SP, hSP⟩ : ∃ f : Nat → List Value, ∀ j, i64s (ints (spL a j)) = f j := ⟨fun j => i64s (ints (spL a j)), fun _ => rfl⟩
  simp only [hSP] at HN hs0 ⊢
  clear hSP
  go_enter Tryd.func39, Tryd.ntmps39
  go_wp2_with (first | ((with_reducible refine kn_load E.out rfl rfl rfl rfl ?_)) | ((with_reducible refine kn_load_if E.out rfl rfl rfl rfl ?_)) | ((with_reducible refine kn_loads E.out rfl rfl rfl ?_ ?_); (focus (first | rfl | (simp only [i64s_length, u8s_length]; first | rfl | assumption | omega)))) | ((with_reducible refine kn_loads_if E.out rfl rfl rfl ?_ ?_); (focus (first | rfl | (simp only [i64s_length, u8s_length]; first | rfl | assumption | omega)))) | ((with_reducible refine kn_stores E.out rfl rfl rfl rfl rfl ?_ ?_ ?_); (focus (first | exact ⟨rfl, rfl⟩ | (simp only [i64s_length, u8s_length]; refine ⟨?_, ?_⟩ <;> first | rfl | assumption | omega))); (focus (first | exact i64s_one _ | exact u8s_one _ | simp [Value.oneCell'])); clear E; intro u E0; have E := Lib.hid E0; clear E0))
  go_loopw [5, 6] (fun vk ck wr => ∃ (j : Nat) (v : Value), j ≤ m ∧ ck = .int .i64 ((a + j : Nat) : Int) ∧ v = vk ∧ Hid (Kn w [.own 3 1 v j (SP j)] [] wr)) (fun _ ck _ => b + 1 - (intOf ck).toNat)
  case atStart => exact ⟨0, .slice none 0 0, by omega, by simp, rfl, by rw [hs0.out]; exact E.out.part _ _ (by repeat (first | exact List.Sublist.refl _ | apply List.Sublist.cons_cons | apply List.Sublist.cons)) (by simp)⟩
  case round =>
    clear E
    obtain ⟨j, v, hj, rfl, rfl, E⟩ := hrel
    by_cases hlt : j < m
    · have hle : ((a + j : Nat) : Int) ≤ (b : Int) := by omega
      have hnx := Lib.hid (HN.out j)
      have haj : a + j < 64 := by omega
      obtain ⟨q, hq⟩ : ∃ z, a + j = z := ⟨_, rfl⟩
      rw [hq] at hle hnx haj ⊢
      go_wp2_with (first
        | ((with_reducible refine kn_build1 (vs := i64s [(q : Int)]) E.out rfl rfl rfl ?_ Tryd.underlying73 inf_int ?_ ?_ ?_ ?_); (focus (rfl)); (focus (rfl)); (focus (omega)); (focus (omega)); clear E; intro gg u E0 hb0; have E := Lib.hid E0; clear E0 hb0)
        | (at_builtin; (with_reducible refine kn_append_row E.out rfl rfl ?_ Tryd.underlying73 inf_int ?_ ?_ rfl ?_ ?_ ?_ ?_ ?_); (focus (rfl)); (focus (rfl)); (focus (omega)); (focus (rfl)); (focus (exact i64s_one _)); (focus (unfold maxLen; omega)); (focus (omega)); clear E; intro v' u' E0; have E := Lib.hid E0; clear E0)
        | ((with_reducible refine kn_load E.out rfl rfl rfl rfl ?_)) | ((with_reducible refine kn_load_if E.out rfl rfl rfl rfl ?_)) | ((with_reducible refine kn_loads E.out rfl rfl rfl ?_ ?_); (focus (first | rfl | (simp only [i64s_length, u8s_length]; first | rfl | assumption | omega)))) | ((with_reducible refine kn_loads_if E.out rfl rfl rfl ?_ ?_); (focus (first | rfl | (simp only [i64s_length, u8s_length]; first | rfl | assumption | omega)))) | ((with_reducible refine kn_stores E.out rfl rfl rfl rfl rfl ?_ ?_ ?_); (focus (first | exact ⟨rfl, rfl⟩ | (simp only [i64s_length, u8s_length]; refine ⟨?_, ?_⟩ <;> first | rfl | assumption | omega))); (focus (first | exact i64s_one _ | exact u8s_one _ | simp [Value.oneCell'])); clear E; intro u E0; have E := Lib.hid E0; clear E0))
      go_roundw
      case rel => exact ⟨j + 1, v', by omega, by rw [← Nat.add_assoc, hq]; go_num, rfl, by rw [← hnx.out]; exact E.out.part _ _ (by repeat (first | exact List.Sublist.refl _ | apply List.Sublist.cons_cons | apply List.Sublist.cons)) (by simp)⟩
      case measure => simp [intOf]; try omega
    · have hle : ¬ (((a + j : Nat) : Int) ≤ (b : Int)) := by omega
      obtain rfl : j = m := by omega
      have Eo : Kn w [.own 3 1 v j (SP j)] [] _ := E.out
      have ho := Eo.own (v := v)
      obtain ⟨gs, cs, rfl, hlo, -, -⟩ := own_form ho (by omega)
      have hc := fun i x hx => own_cell (i := i) (v := x) ho hx
      clear ho Eo
      go_wp2_with (first | ((with_reducible refine kn_load E.out rfl rfl rfl rfl ?_)) | ((with_reducible refine kn_load_if E.out rfl rfl rfl rfl ?_)) | ((with_reducible refine kn_loads E.out rfl rfl rfl ?_ ?_); (focus (first | rfl | (simp only [i64s_length, u8s_length]; first | rfl | assumption | omega)))) | ((with_reducible refine kn_loads_if E.out rfl rfl rfl ?_ ?_); (focus (first | rfl | (simp only [i64s_length, u8s_length]; first | rfl | assumption | omega)))) | ((with_reducible refine kn_stores E.out rfl rfl rfl rfl rfl ?_ ?_ ?_); (focus (first | exact ⟨rfl, rfl⟩ | (simp only [i64s_length, u8s_length]; refine ⟨?_, ?_⟩ <;> first | rfl | assumption | omega))); (focus (first | exact i64s_one _ | exact u8s_one _ | simp [Value.oneCell'])); clear E; intro u E0; have E := Lib.hid E0; clear E0))
      go_ret
      exact ⟨gs, ⟨cs, rfl⟩, hc, hlo, E.out.bel⟩
end Go.Proofs.YtgcijioiicmjiaaDoor
