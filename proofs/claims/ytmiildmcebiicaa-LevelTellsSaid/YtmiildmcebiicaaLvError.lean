/- Error and the reference's. -/
import Derived.Test.YtmiildmcebiicaaLvBest
import Derived.Test.YtmiildmcebiicaaTile
namespace Go.Proofs.Ytmiildmcebiicaa
open Go.RowKit
open Lv

/-- What channel c adds, at the place j of the 64. -/
def mk (mask : Int) (c : Nat) : Bool := decide (mask / 2 ^ c % 2 = 1)
def errC (a b : List Int) (mask : Int) (j : Nat) : Int := if mk mask (j % 4) = true then (a.getD j 0 - b.getD j 0) * (a.getD j 0 - b.getD j 0) else 0
def errT (a b : List Int) (mask : Int) : Nat → Int
  | 0 => 0
  | j + 1 => errT a b mask j + errC a b mask j
def errV (a b : List Int) (mask : Int) : Int := errT a b mask 64

theorem errC_bd (a b : List Int) (mask : Int) (ha : ∀ z ∈ a, sm z) (hb : ∀ z ∈ b, sm z) (la : a.length = 64) (lb : b.length = 64) (j : Nat) (hj : j < 64) : 0 ≤ errC a b mask j ∧ errC a b mask j ≤ 9000000000000 := by
  have h1 := getD_sm a j 64 la hj ha
  have h2 := getD_sm b j 64 lb hj hb
  unfold sm at h1 h2
  unfold errC
  split
  · exact sq_bd _ (by omega) (by omega)
  · omega
theorem errT_bd (a b : List Int) (mask : Int) (ha : ∀ z ∈ a, sm z) (hb : ∀ z ∈ b, sm z) (la : a.length = 64) (lb : b.length = 64) (j : Nat) (hj : j ≤ 64) : 0 ≤ errT a b mask j ∧ errT a b mask j ≤ 9000000000000 * j := by
  induction j with
  | zero => simp [errT]
  | succ j ih =>
    have h1 := ih (by omega)
    have h2 := errC_bd a b mask ha hb la lb j (by omega)
    simp only [errT]
    omega

theorem size_tile : (Try.prog.info? 33).map (·.size) = some 64 := by kernel_rfl
theorem size_texel : (Try.prog.info? 31).map (·.size) = some 4 := by kernel_rfl
theorem size_int : (Try.prog.info? 3).map (·.size) = some 1 := by kernel_rfl
theorem index_texel (zs : List Int) (i : Nat) (hi : i < 16) (hn : zs.length = 64) (w : World) :
    (Instr.index 33 (arr zs) (.int .i64 (i : Int))).run Try.prog w = .ok (arr ((zs.drop (i * 4)).take 4)) w :=
  run_index_row _ _ _ 16 4 Try.underlying33 Try.underlying31 size_texel zs i hi hn w
theorem index_chan (zs : List Int) (i : Nat) (hi : i < 4) (hn : zs.length = 4) (w : World) :
    (Instr.index 31 (arr zs) (.int .i64 (i : Int))).run Try.prog w = .ok (.int .i64 (zs.getD i 0)) w :=
  run_index_i64 _ _ 4 Try.underlying31 Try.underlying3 size_int zs i hi hn w
theorem texel_len (zs : List Int) (i : Nat) (hi : i < 16) (hn : zs.length = 64) : ((zs.drop (i * 4)).take 4).length = 4 := by simp; omega
theorem texel_get (zs : List Int) (i c : Nat) (hc : c < 4) : ((zs.drop (i * 4)).take 4).getD c 0 = zs.getD (i * 4 + c) 0 := by
  simp [List.getD_eq_getElem?_getD, List.getElem?_take, hc, List.getElem?_drop]

theorem and_one (v : Int) : bits .and .i64 v 1 = v % 2 := by
  have h := and_mask v 1 (by omega)
  rw [show (2 : Int) ^ 1 = 2 from rfl, wrap64_small 2 (by omega) (by omega), show (2 : Int) - 1 = 1 from rfl, wrap64_small 1 (by omega) (by omega)] at h
  rw [h]
  omega
theorem mk_bit (mask : Int) (c : Nat) : (bits .and .i64 (mask / 2 ^ c) 1 == 1) = mk mask c := by
  rw [and_one, mk]
  by_cases h : mask / 2 ^ c % 2 = 1 <;> simp [h]

set_option maxHeartbeats 1000000 in
set_option maxRecDepth 100000 in
theorem error_any (a b : List Int) (mask : Int) (w : World) (ha : ∀ z ∈ a, sm z) (hb : ∀ z ∈ b, sm z) (la : a.length = 64) (lb : b.length = 64) :
    Calls Try.prog 20 #[arr a, arr b, .int .i64 mask] w fun e w' => e = .returned (.int .i64 (errV a b mask)) ∧ Below w.heap.size w w' := by
  have HA := Lib.hid ha
  have HB := Lib.hid hb
  have LA := Lib.hid la
  have LB := Lib.hid lb
  clear ha hb la lb
  have R0 := Lib.hid ((Row.newInts w 33 a).old (.cells (i64s b).toArray 33))
  have R1 := Lib.hid (show Row ((w.alloc (.cells (i64s a).toArray 33)).alloc (.cells (i64s b).toArray 33)) (w.heap.size + 1) 33 (i64s b) from by
    have := Row.newInts (w.alloc (.cells (i64s a).toArray 33)) 33 b
    rwa [World.size_alloc] at this)
  have B1 := Lib.hid (((Below.refl w.heap.size w).alloc (Nat.le_refl _) (.cells (i64s a).toArray 33)).alloc (by simp) (.cells (i64s b).toArray 33))
  go_enter Try.func20, Try.ntmps20
  go_wp2_with (with_reducible refine wpList_load_ints rfl 33 (.tmp 3) rfl w.heap.size rfl 33 a 16 31 R0.out Try.underlying33 (by rw [LA.out]; exact size_tile) ?_)
  go_loopw [7, 8, 9, 10, 11, 13] (fun s _ _ _ _ i wr => ∃ k : Nat, k ≤ 16 ∧ i = .int .i64 k ∧ s = .int .i64 (errT a b mask (4 * k)) ∧ Row wr (w.heap.size + 1) 33 (i64s b) ∧ Below w.heap.size w wr) (fun _ _ _ _ _ i _ => 16 - (intOf i).toNat)
  case atStart => exact ⟨0, by omega, rfl, rfl, R1.out, B1.out⟩
  case round =>
    obtain ⟨k, hk, rfl, rfl, hrow, hbel⟩ := hrel
    clear R0 R1 B1
    by_cases hlt : k < 16
    · have hix := index_texel a k hlt LA.out
      have htl := texel_len a k hlt LA.out
      have htg := Lib.hid (fun c hc => texel_get a k c hc)
      generalize (a.drop (k * 4)).take 4 = t at *
      have HR := Lib.hid hrow
      have HBL := Lib.hid hbel
      have HT := Lib.hid htl
      have HT4 := Lib.hid (show t.length = ([0, 0, 0, 0] : List Int).length from htl)
      clear hrow hbel htl
      have hz := Lib.hid (Row.zero4 wr 31)
      go_wp2_with (first
        | (with_reducible refine wpList_store_ints rfl 31 (.tmp 9) (.tmp 16) rfl rfl wr.heap.size rfl t rfl 31 [0, 0, 0, 0] hz.out (by rw [HT.out]; exact size_texel) HT4.out ?_; intro w2 hr2)
        | (with_reducible refine wpList_load_ints rfl 31 (.tmp 9) rfl wr.heap.size rfl 31 t 4 3 hr2.row Try.underlying31 (by rw [HT.out]; exact size_texel) ?_))
      have HR2 := Lib.hid (hr2.keep (k := w.heap.size + 1) (by have := HR.out.lt; omega) (HR.out.old _))
      have HB2 := Lib.hid (hr2.below w.heap.size w HBL.out.size (HBL.out.alloc HBL.out.size _))
      clear hr2 hix hz HR HBL HT4
      go_loop [7, 10, 11, 18] (fun s _ _ i => ∃ c : Nat, c ≤ 4 ∧ i = .int .i64 c ∧ s = .int .i64 (errT a b mask (4 * k + c))) (fun _ _ _ i => 4 - (intOf i).toNat)
      case atStart => exact ⟨0, by omega, rfl, rfl⟩
      case round =>
        obtain ⟨c, hc, rfl, rfl⟩ := hrel
        by_cases hc4 : c < 4
        · have hix := index_chan t c hc4 HT.out
          rw [htg.out c hc4] at hix
          have hj : k * 4 + c < 64 := by omega
          have hcell := HR2.out.int (k * 4 + c) (by rw [LB.out]; exact hj)
          have hx := getD_sm a (k * 4 + c) 64 LA.out hj HA.out
          have hy := getD_sm b (k * 4 + c) 64 LB.out hj HB.out
          have hs := Lib.hid (show errT a b mask (4 * k + (c + 1)) = errT a b mask (4 * k + c) + errC a b mask (4 * k + c) from rfl)
          have hT := errT_bd a b mask HA.out HB.out LA.out LB.out (4 * k + c) (by omega)
          have hC := Lib.hid (show errC a b mask (4 * k + c) = if mk mask c = true then (a.getD (k * 4 + c) 0 - b.getD (k * 4 + c) 0) * (a.getD (k * 4 + c) 0 - b.getD (k * 4 + c) 0) else 0 from by
            rw [errC, show (4 * k + c) % 4 = c from by omega, show 4 * k + c = k * 4 + c from by omega])
          rw [hC.out] at hs
          clear hC
          generalize a.getD (k * 4 + c) 0 = x at *
          generalize b.getD (k * 4 + c) 0 = y at *
          generalize errT a b mask (4 * k + c) = T at *
          obtain ⟨x0, x1⟩ := hx
          obtain ⟨y0, y1⟩ := hy
          obtain ⟨t0, t1⟩ := hT
          by_cases hm : mk mask c = true
          · rw [if_pos hm] at hs
            have hbit : (bits .and .i64 (mask / 2 ^ c) 1 == 1) = true := (mk_bit mask c).trans hm
            have hq := sq_bd (x - y) (by omega) (by omega)
            have hS := Lib.hid (fun w => square_any (x - y) w (by omega) (by omega))
            generalize (x - y) * (x - y) = Z at *
            obtain ⟨q0, q1⟩ := hq
            go_wp2_with (go_at_call 27; with_reducible refine (hS.out _).mono ?_; rintro e w' ⟨rfl, rfl⟩)
            go_round
            case rel => exact ⟨c + 1, by omega, by go_num, by rw [hs.out]⟩
            case measure => simp [intOf]; omega
          · rw [if_neg hm] at hs
            have hbit : (bits .and .i64 (mask / 2 ^ c) 1 == 1) = false := (mk_bit mask c).trans (by simpa using hm)
            go_wp2
            go_round
            case rel => exact ⟨c + 1, by omega, by go_num, by rw [hs.out, Int.add_zero]⟩
            case measure => simp [intOf]; omega
        · obtain rfl : c = 4 := by omega
          go_wp2
          go_roundw
          case rel => exact ⟨k + 1, by omega, by go_num, rfl, HR2.out, HB2.out⟩
          case measure => simp [intOf]; omega
    · obtain rfl : k = 16 := by omega
      go_wp2
      go_ret
      exact ⟨rfl, hbel⟩

theorem mk_ref (mask : Int) (c : Nat) (hc : c < 4) : ((mask % 16 / ((2 ^ c : Nat) : Int)).tmod 2 == 1) = mk mask c := by
  rw [Int.tmod_eq_emod_of_nonneg (Int.ediv_nonneg (Int.emod_nonneg _ (by omega)) (Int.natCast_nonneg _))]
  have h : mask % 16 / ((2 ^ c : Nat) : Int) % 2 = mask / 2 ^ c % 2 := by
    have : c = 0 ∨ c = 1 ∨ c = 2 ∨ c = 3 := by omega
    rcases this with rfl | rfl | rfl | rfl <;> simp <;> omega
  rw [h, mk]
  by_cases h : mask / 2 ^ c % 2 = 1 <;> simp [h]

set_option maxHeartbeats 1000000 in
set_option maxRecDepth 100000 in
theorem rerror_any (a b : List Int) (mask : Int) (w : World) (ha : ∀ z ∈ a, sm z) (hb : ∀ z ∈ b, sm z) (la : a.length = 64) (lb : b.length = 64) :
    Calls Try.prog 21 #[arr a, arr b, .int .i64 mask] w fun e w' => e = .returned (.int .i64 (errV a b mask)) ∧ Below w.heap.size w w' := by
  have HA := Lib.hid ha
  have HB := Lib.hid hb
  have LA := Lib.hid la
  have LB := Lib.hid lb
  clear ha hb la lb
  have R0 := Lib.hid ((Row.newInts w 33 a).old (.cells (i64s b).toArray 33))
  have R1 := Lib.hid (show Row ((w.alloc (.cells (i64s a).toArray 33)).alloc (.cells (i64s b).toArray 33)) (w.heap.size + 1) 33 (i64s b) from by
    have := Row.newInts (w.alloc (.cells (i64s a).toArray 33)) 33 b
    rwa [World.size_alloc] at this)
  have B1 := Lib.hid (((Below.refl w.heap.size w).alloc (Nat.le_refl _) (.cells (i64s a).toArray 33)).alloc (by simp) (.cells (i64s b).toArray 33))
  go_enter Try.func21, Try.ntmps21
  go_wp2
  go_loopw [7, 8, 9] (fun s i _ wr => ∃ k : Nat, k ≤ 16 ∧ i = .int .i64 k ∧ s = .int .i64 (errT a b mask (4 * k)) ∧ Hid (Row wr w.heap.size 33 (i64s a) ∧ Row wr (w.heap.size + 1) 33 (i64s b) ∧ Below w.heap.size w wr)) (fun _ i _ _ => 16 - (intOf i).toNat)
  case atStart => exact ⟨0, by omega, rfl, rfl, R0.out, R1.out, B1.out⟩
  case round =>
    obtain ⟨k, hk, rfl, rfl, hI⟩ := hrel
    clear R0 R1 B1
    by_cases hlt : k < 16
    · go_wp2
      rw [show decide ((k : Int) < 16) = true from by simp; omega]
      go_loopw [7, 9] (fun s i wq => ∃ c : Nat, c ≤ 4 ∧ i = .int .i64 c ∧ s = .int .i64 (errT a b mask (4 * k + c)) ∧ Hid (Row wq w.heap.size 33 (i64s a) ∧ Row wq (w.heap.size + 1) 33 (i64s b) ∧ Below w.heap.size w wq)) (fun _ i _ => 4 - (intOf i).toNat)
      case atStart => exact ⟨0, by omega, rfl, rfl, hI⟩
      case round =>
        clear hI
        obtain ⟨c, hc, rfl, rfl, hI⟩ := hrel
        by_cases hc4 : c < 4
        · have hj : k * 4 + c < 64 := by omega
          have hcx := hI.out.1.int (k * 4 + c) (by rw [LA.out]; exact hj)
          have hcy := hI.out.2.1.int (k * 4 + c) (by rw [LB.out]; exact hj)
          have hx := getD_sm a (k * 4 + c) 64 LA.out hj HA.out
          have hy := getD_sm b (k * 4 + c) 64 LB.out hj HB.out
          have hs := Lib.hid (show errT a b mask (4 * k + (c + 1)) = errT a b mask (4 * k + c) + errC a b mask (4 * k + c) from rfl)
          have hT := errT_bd a b mask HA.out HB.out LA.out LB.out (4 * k + c) (by omega)
          have hC := Lib.hid (show errC a b mask (4 * k + c) = if mk mask c = true then (a.getD (k * 4 + c) 0 - b.getD (k * 4 + c) 0) * (a.getD (k * 4 + c) 0 - b.getD (k * 4 + c) 0) else 0 from by
            rw [errC, show (4 * k + c) % 4 = c from by omega, show 4 * k + c = k * 4 + c from by omega])
          rw [hC.out] at hs
          clear hC
          generalize a.getD (k * 4 + c) 0 = x at *
          generalize b.getD (k * 4 + c) 0 = y at *
          generalize errT a b mask (4 * k + c) = T at *
          obtain ⟨x0, x1⟩ := hx
          obtain ⟨y0, y1⟩ := hy
          obtain ⟨t0, t1⟩ := hT
          have hmr := mk_ref mask c hc4
          have hm0 := Int.emod_nonneg mask (show (16 : Int) ≠ 0 by omega)
          have hm1 := Int.emod_lt_of_pos mask (show (0 : Int) < 16 by omega)
          have hpw := Lib.hid (fun w => power_any c w (by omega))
          have hp0 : 0 < 2 ^ c := Nat.two_pow_pos c
          generalize 2 ^ c = p at *
          have hmod := Lib.hid (fun w => rmod_any mask 16 w (by omega) (by omega))
          generalize mask % 16 = r at *
          by_cases hm : mk mask c = true
          · rw [if_pos hm] at hs
            rw [hm] at hmr
            have hq := sq_bd (x - y) (by omega) (by omega)
            have hS := Lib.hid (fun w => far_any (x - y) w (by omega) (by omega))
            generalize (x - y) * (x - y) = Z at *
            obtain ⟨q0, q1⟩ := hq
            have hd : IntKind.i64.wrap (x - y) = x - y := IntWalk.i64_in _ (by omega)
            have hd2 : IntKind.i64.wrap (T + Z) = T + Z := IntWalk.i64_in _ (by omega)
            have i1 : (k : Int) < 16 := by omega
            have i2 : (c : Int) < 4 := by omega
            clear x0 x1 y0 y1 t0 t1 q0 q1
            go_wp2_with (first
              | (go_at_call 23; with_reducible refine (hmod.out _).mono ?_; rintro e w' ⟨rfl, rfl⟩)
              | (go_at_call 24; with_reducible refine (hpw.out _).mono ?_; rintro e w' ⟨rfl, rfl⟩))
            go_quiet (first | (go_at_call 28; with_reducible exact quiet_same (hS.out _)))
            go_wp2
            go_roundw
            case rel => exact ⟨c + 1, by omega, by go_num, by rw [hs.out], ⟨hI.out.1, hI.out.2.1, hI.out.2.2.trans ⟨rfl, rfl, rfl, Nat.le_refl _, fun _ _ => rfl⟩⟩⟩
            case measure => simp [intOf]; omega
          · rw [if_neg hm] at hs
            have hm' : mk mask c = false := by simpa using hm
            rw [hm'] at hmr
            go_wp2_with (first
              | (go_at_call 23; with_reducible refine (hmod.out _).mono ?_; rintro e w' ⟨rfl, rfl⟩)
              | (go_at_call 24; with_reducible refine (hpw.out _).mono ?_; rintro e w' ⟨rfl, rfl⟩))
            go_roundw
            case rel => exact ⟨c + 1, by omega, by go_num, by rw [hs.out, Int.add_zero], hI⟩
            case measure => simp [intOf]; omega
        · obtain rfl : c = 4 := by omega
          go_wp2
          go_roundw
          case rel => exact ⟨k + 1, by omega, by go_num, rfl, hI⟩
          case measure => simp [intOf]; omega
    · obtain rfl : k = 16 := by omega
      go_wp2
      go_ret
      exact ⟨rfl, hI.out.2.2⟩
end Go.Proofs.Ytmiildmcebiicaa
