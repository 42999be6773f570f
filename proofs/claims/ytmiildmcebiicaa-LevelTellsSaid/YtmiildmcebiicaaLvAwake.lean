/- The laws' own small case: 'awake' answers true; 'small' of some numbers. -/
import Derived.Test.YtmiildmcebiicaaLvError
import Derived.Great.BuildSlice
namespace Go.Proofs.Ytmiildmcebiicaa
open Go.RowKit
open Lv

def z64 : List Int := List.replicate 64 0
theorem Row.zero64 (w : World) (t : TypeId) : Row (w.alloc (.cells #[.int .i64 0, .int .i64 0, .int .i64 0, .int .i64 0, .int .i64 0, .int .i64 0, .int .i64 0, .int .i64 0, .int .i64 0, .int .i64 0, .int .i64 0, .int .i64 0, .int .i64 0, .int .i64 0, .int .i64 0, .int .i64 0, .int .i64 0, .int .i64 0, .int .i64 0, .int .i64 0, .int .i64 0, .int .i64 0, .int .i64 0, .int .i64 0, .int .i64 0, .int .i64 0, .int .i64 0, .int .i64 0, .int .i64 0, .int .i64 0, .int .i64 0, .int .i64 0, .int .i64 0, .int .i64 0, .int .i64 0, .int .i64 0, .int .i64 0, .int .i64 0, .int .i64 0, .int .i64 0, .int .i64 0, .int .i64 0, .int .i64 0, .int .i64 0, .int .i64 0, .int .i64 0, .int .i64 0, .int .i64 0, .int .i64 0, .int .i64 0, .int .i64 0, .int .i64 0, .int .i64 0, .int .i64 0, .int .i64 0, .int .i64 0, .int .i64 0, .int .i64 0, .int .i64 0, .int .i64 0, .int .i64 0, .int .i64 0, .int .i64 0, .int .i64 0] t)) w.heap.size t (i64s z64) := Row.newInts w t z64
theorem built_tile : (Try.prog.built 33 []).getD #[] = (i64s z64).toArray := by kernel_rfl
theorem built_tile' : (Try.prog.built 33 []).isSome = true := by kernel_rfl
theorem run_build_tile (w : World) : (Instr.build 33 #[]).run Try.prog w = .ok (arr z64) w := run_build w _ _ _ (by kernel_rfl)
theorem Below.fresh {w w' : World} (o : Obj) (hb : Below (w.alloc o).heap.size (w.alloc o) w') : Below w.heap.size w w' :=
  ((Below.refl w.heap.size w).alloc (Nat.le_refl _) o).trans (hb.mono (by simp))

theorem Row.is {w : World} {g : Nat} {t : TypeId} {zs : List Int} (h : Row w g t (i64s zs)) (n : Nat) (hn : zs.length = n) : Is w w.heap.size (some ⟨g, 0, none⟩) n zs := Row.rs h n (by rw [i64s_length, hn])
/-- Are all small, and not too many? -/
def smB (zs : List Int) : Bool := zs.all (fun z => decide (-1048576 ≤ z ∧ z ≤ 1048576)) && decide (zs.length ≤ 100)
theorem smB_all {zs : List Int} (h : smB zs = true) : (∀ z ∈ zs, sm z) ∧ zs.length ≤ 100 := by
  unfold smB at h
  rw [Bool.and_eq_true, List.all_eq_true] at h
  exact ⟨fun z hz => of_decide_eq_true (p := -1048576 ≤ z ∧ z ≤ 1048576) (h.1 z hz), of_decide_eq_true h.2⟩
set_option maxHeartbeats 400000 in
theorem smalls_any (A : Option Addr) (n c : Nat) (zs : List Int) (B : Nat) (w : World) (h : Is w B A n zs) (hn : n ≤ 9223372036854775807) :
    Calls Try.prog 8 #[.slice A n c] w fun e w' => e = .returned (.bool (smB zs)) ∧ w = w' := by
  have H := Lib.hid h
  clear h
  go_enter Try.func8, Try.ntmps8
  go_wp2
  go_loop [3] (fun i => ∃ k : Nat, k ≤ n ∧ i = .int .i64 k ∧ Hid ((zs.take k).all (fun z => decide (-1048576 ≤ z ∧ z ≤ 1048576)) = true)) (fun i => n - (intOf i).toNat)
  case atStart => exact ⟨0, Nat.zero_le _, rfl, rfl⟩
  case round =>
    obtain ⟨k, hk, rfl, hI⟩ := hrel
    by_cases hlt : k < n
    · obtain ⟨b, off, rfl, -, hc⟩ := H.out.open (by omega)
      have hcx := hc k hlt
      have hkl : k < zs.length := by rw [H.out.length]; exact hlt
      have hmem := Lib.hid (show zs.getD k 0 ∈ zs from by
        simp only [List.getD_eq_getElem?_getD, List.getElem?_eq_getElem hkl, Option.getD_some]; exact List.getElem_mem hkl)
      have hnext := Lib.hid (show decide (-1048576 ≤ zs.getD k 0 ∧ zs.getD k 0 ≤ 1048576) = true → (zs.take (k + 1)).all (fun z => decide (-1048576 ≤ z ∧ z ≤ 1048576)) = true from by
        intro h
        have e : zs.getD k 0 = zs[k] := by simp [List.getElem?_eq_getElem hkl]
        rw [e] at h
        rw [List.take_succ_eq_append_getElem hkl, List.all_append, hI.out]
        simpa using h)
      clear hc hkl
      generalize zs.getD k 0 = x at *
      have hS := Lib.hid (fun w => small_any x w)
      by_cases hd : decide (-1048576 ≤ x ∧ x ≤ 1048576) = true
      · have hN := Lib.hid (hnext.out hd)
        rw [hd] at hS
        clear hnext hd
        go_wp2_with (go_at_call 17; with_reducible refine (hS.out _).mono ?_; rintro e w' ⟨rfl, rfl⟩)
        go_round
        case rel => exact ⟨k + 1, by omega, by go_num, hN⟩
        case measure => simp [intOf]; omega
      · have hd' : decide (-1048576 ≤ x ∧ x ≤ 1048576) = false := by simpa using hd
        have hF := Lib.hid (show smB zs = false from by
          unfold smB
          rw [Bool.and_eq_false_iff]
          left
          rw [List.all_eq_false]
          exact ⟨x, hmem.out, hd⟩)
        rw [hd'] at hS
        clear hnext hd hd'
        go_wp2_with (go_at_call 17; with_reducible refine (hS.out _).mono ?_; rintro e w' ⟨rfl, rfl⟩)
        go_ret
        exact ⟨ret_bool hF.out.symm, rfl⟩
    · obtain rfl : k = n := by omega
      go_wp2
      go_ret
      refine ⟨ret_bool ?_, rfl⟩
      have hI := hI.out
      rw [List.take_of_length_le (by rw [H.out.length]; omega)] at hI
      rw [smB, hI, H.out.length]
      simp
      omega

/-- Two slices, one made after the other. -/
theorem Is.fresh2 (w : World) (t u : TypeId) (xs ys : List Int) :
    Is ((w.alloc (.cells (i64s xs).toArray t)).alloc (.cells (i64s ys).toArray u)) ((w.alloc (.cells (i64s xs).toArray t)).alloc (.cells (i64s ys).toArray u)).heap.size (some ⟨w.heap.size, 0, none⟩) xs.length xs ∧
    Is ((w.alloc (.cells (i64s xs).toArray t)).alloc (.cells (i64s ys).toArray u)) ((w.alloc (.cells (i64s xs).toArray t)).alloc (.cells (i64s ys).toArray u)).heap.size (some ⟨w.heap.size + 1, 0, none⟩) ys.length ys := by
  refine ⟨Row.is ((Row.newInts w t xs).old _) _ rfl, Row.is (t := u) ?_ _ rfl⟩
  have := Row.newInts (w.alloc (.cells (i64s xs).toArray t)) u ys
  rwa [World.size_alloc] at this
theorem sm_all (l : List Int) (h : l.all (fun z => decide (-1048576 ≤ z ∧ z ≤ 1048576)) = true) : ∀ z ∈ l, sm z := by
  intro z hz
  have := List.all_eq_true.1 h z hz
  simpa [sm] using this

set_option maxHeartbeats 2000000 in
set_option maxRecDepth 100000 in
theorem awake_any (w : World) : Calls Try.prog 7 #[] w fun e w' => e = .returned (.bool true) ∧ Below w.heap.size w w' := by
  have v1 := Lib.hid (show wideV 5 3 = 182 from by decide +kernel)
  have v2 := Lib.hid (show nearV 180 3 = 5 from by decide +kernel)
  have v3 := Lib.hid (show clampV 300 255 = 255 from by decide +kernel)
  have v4 := Lib.hid (show clampV (-1) 255 = 0 from by decide +kernel)
  have v5 := Lib.hid (show mixV 10 40 1 3 0 = 20 from by decide +kernel)
  have v6 := Lib.hid (show bestV [0, 10, 20] [9, 12] = 1 from by decide +kernel)
  have v7 := Lib.hid (show errV z64 (spl z64 12 [1, 2, 3, 4]) 5 = 10 from by decide +kernel)
  have hbt := run_build_tile
  go_enter Try.func7, Try.ntmps7
  have hz0 := Lib.hid (Row.zero64 w 33)
  have hl := Lib.hid (show z64.length = z64.length from rfl)
  have hi := Lib.hid (show (Try.prog.info? 33).map (·.size) = some z64.length from by kernel_rfl)
  have hi4 := Lib.hid (show (Try.prog.info? 31).map (·.size) = some ([1, 2, 3, 4] : List Int).length from by kernel_rfl)
  have h12 := Lib.hid (show 12 + ([1, 2, 3, 4] : List Int).length ≤ z64.length from by decide)
  go_wp2_with (first
    | (with_reducible refine wpList_store_ints rfl 33 (.tmp 1) (.tmp 3) rfl rfl w.heap.size rfl z64 rfl 33 z64 hz0.out hi.out hl.out ?_; intro w1 hr1; have hz1 := Lib.hid (Row.zero64 w1 33))
    | (with_reducible refine wpList_store_ints rfl 33 (.tmp 2) (.tmp 4) rfl rfl w1.heap.size rfl z64 rfl 33 z64 hz1.out hi.out hl.out ?_; intro w2 hr2)
    | (with_reducible refine wpList_store_part rfl 31 (.tmp 6) (.tmp 5) rfl rfl w1.heap.size 12 rfl [1, 2, 3, 4] rfl 33 z64 hr2.row hi4.out h12.out ?_; intro w3 hr3; have RA3 := Lib.hid (hr3.keep (k := w.heap.size) (by rw [hr1.size]; simp) (hr2.keep (by rw [hr1.size]; simp) (hr1.row.old _))); have RB3 := Lib.hid hr3.row; have B3 := Lib.hid (hr3.below w.heap.size w (by rw [hr1.size]; simp) (hr2.below w.heap.size w (by rw [hr1.size]; simp) ((hr1.below w.heap.size w (Nat.le_refl _) ((Below.refl w.heap.size w).alloc (Nat.le_refl _) _)).alloc (by rw [hr1.size]; simp) _))); clear hr1 hr2 hr3 hz1 hz0 hi hl hi4 h12 hbt)
    | (go_at_call 9; refine (wide_any _ _ _).mono ?_; rw [v1.out]; rintro e w' ⟨rfl, rfl⟩)
    | (go_at_call 11; refine (near_any _ _ _ ⟨by omega, by omega⟩).mono ?_; rw [v2.out]; rintro e w4 ⟨rfl, hb4⟩; have RA4 := Lib.hid (RA3.out.below hb4 RA3.out.lt); have RB4 := Lib.hid (RB3.out.below hb4 RB3.out.lt); have B4 := Lib.hid (B3.out.trans (hb4.mono B3.out.size)); clear hb4 RA3 RB3 B3)
    | (go_at_call 13; refine (clamp_any _ _ _).mono ?_; (first | rw [v3.out] | rw [v4.out]); rintro e w' ⟨rfl, rfl⟩)
    | (go_at_call 15; refine (mix_any _ _ _ _ _ _ ⟨by omega, by omega⟩ ⟨by omega, by omega⟩ ⟨by omega, by omega⟩ ⟨by omega, by omega⟩ ⟨by omega, by omega⟩).mono ?_; rw [v5.out]; rintro e w' ⟨rfl, rfl⟩))
  refine (best_any _ _ 3 3 2 2 [0, 10, 20] [9, 12] _ (Is.fresh2 w4 3 3 [0, 10, 20] [9, 12]).1 (Is.fresh2 w4 3 3 [0, 10, 20] [9, 12]).2 (sm_all _ (by decide)) (sm_all _ (by decide)) (by omega) (by omega)).mono ?_
  rw [v6.out]
  rintro e w5 ⟨rfl, hb5⟩
  have B5 := Lib.hid (((Below.refl w4.heap.size w4).alloc (Nat.le_refl _) (.cells (i64s [0, 10, 20]).toArray 3)).alloc (by simp) (.cells (i64s [9, 12]).toArray 3) |>.trans (hb5.mono (by simp; omega)))
  have RA5 := Lib.hid (RA4.out.below B5.out RA4.out.lt)
  have RB5 := Lib.hid (RB4.out.below B5.out RB4.out.lt)
  have B6 := Lib.hid (B4.out.trans (B5.out.mono B4.out.size))
  have s1 := Lib.hid (show (Try.prog.info? 33).map (·.size) = some z64.length from by kernel_rfl)
  have s2 := Lib.hid (show (Try.prog.info? 33).map (·.size) = some (spl z64 12 [1, 2, 3, 4]).length from by kernel_rfl)
  clear hb5 RA4 RB4 B4 B5
  go_wp2_with (first
    | (with_reducible refine wpList_load_ints_if rfl 33 (.tmp 1) rfl w.heap.size rfl 33 z64 16 31 RA5.out Try.underlying33 s1.out ?_)
    | (with_reducible refine wpList_load_ints_if rfl 33 (.tmp 2) rfl w1.heap.size rfl 33 (spl z64 12 [1, 2, 3, 4]) 16 31 RB5.out Try.underlying33 s2.out ?_)
    | (go_at_call 20; refine (error_any z64 (spl z64 12 [1, 2, 3, 4]) 5 _ (sm_all _ (by decide)) (sm_all _ (by decide)) (by decide) (by decide)).mono ?_; rw [v7.out]; rintro e w7 ⟨rfl, hb7⟩))
  go_ret
  exact ⟨rfl, B6.out.trans (hb7.mono B6.out.size)⟩
end Go.Proofs.Ytmiildmcebiicaa
