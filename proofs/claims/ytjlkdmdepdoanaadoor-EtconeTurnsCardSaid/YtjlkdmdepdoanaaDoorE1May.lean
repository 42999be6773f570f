/- May a block have such parts: the program's and the document's. -/
import Derived.Test.YtjlkdmdepdoanaaDoorE1Tab
set_option linter.all false
namespace Go.Proofs.YtjlkdmdepdoanaaDoor
open Go.RowKit
open Bi Lv Eo

set_option maxHeartbeats 2000000 in
set_option maxRecDepth 100000 in
theorem all10 (g off n cap : Nat) (zs : Nat → Int) (least M : Int) (m : Nat) (hM : M = (m : Int)) (w : World) (h0 : -16 ≤ least) (h1 : least ≤ 16) (hm : m ≤ 16) (hn : n ≤ 16)
    (hI : ∀ i, i < n → w.cell? ⟨g, off + i, none⟩ = some (.int .i64 (zs i))) :
    Calls Tryd.prog 52 #[.slice (some ⟨g, off, none⟩) n cap, .int .i64 least, .int .i64 M] w fun e w' => e = .returned (.bool (decide (∀ i, i < n → least ≤ zs i ∧ zs i < least + ((2 ^ m : Nat) : Int)))) ∧ w = w' := by
  have HOK := Lib.hid (fun (h : ∀ j, j < n → least ≤ zs j ∧ zs j < least + ((2 ^ m : Nat) : Int)) => show decide (∀ i, i < n → least ≤ zs i ∧ zs i < least + ((2 ^ m : Nat) : Int)) = true from decide_eq_true h)
  have HNO := Lib.hid (fun (j : Nat) (hj : j < n) (h : ¬ (least ≤ zs j ∧ zs j < least + ((2 ^ m : Nat) : Int))) => show decide (∀ i, i < n → least ≤ zs i ∧ zs i < least + ((2 ^ m : Nat) : Int)) = false from decide_eq_false fun k => h (k j hj))
  have HW := Lib.hid (fun z u => within_any z least M m hM u h0 h1 hm)
  have HI := Lib.hid hI
  clear hI
  generalize decide (∀ i, i < n → least ≤ zs i ∧ zs i < least + ((2 ^ m : Nat) : Int)) = R at *
  generalize least + ((2 ^ m : Nat) : Int) = top at *
  clear hM h0 h1 hm
  go_enter Tryd.func52, Tryd.ntmps52
  go_wp2
  go_loopw [11] (fun i wr => ∃ k : Nat, k ≤ n ∧ i = .int .i64 k ∧ (∀ j, j < k → least ≤ zs j ∧ zs j < top) ∧ wr = w) (fun i _ => n - (intOf i).toNat)
  case atStart => exact ⟨0, by omega, rfl, fun j hj => absurd hj (by omega), rfl⟩
  case round =>
    obtain ⟨k, hk, rfl, hall, rfl⟩ := hrel
    by_cases hlt : k < n
    · have hki : (k : Int) < (n : Int) := by omega
      have hc := HI.out k hlt
      obtain ⟨v, hv⟩ : ∃ v : Int, zs k = v := ⟨_, rfl⟩
      rw [hv] at hc
      have hf := Lib.hid (fun u => HW.out v u)
      by_cases hgood : least ≤ v ∧ v < top
      · have hall' := Lib.hid (show ∀ j, j < k + 1 → least ≤ zs j ∧ zs j < top from fun j hj => by
          rcases Nat.lt_or_ge j k with h | h
          · exact hall j h
          · obtain rfl : j = k := by omega
            rw [hv]; exact hgood)
        rw [decide_eq_true hgood] at hf
        clear hall HOK HNO hv hgood HW HI
        go_wp2_with (first
          | (go_at_call 42; refine (hf.out _).mono ?_; rintro e w1 ⟨rfl, rfl⟩))
        go_roundw
        case rel => exact ⟨k + 1, by omega, by go_num, hall'.out, (by first | rfl | trivial)⟩
        case measure => simp [intOf]; omega
      · have hno := HNO.out k hlt (by rw [hv]; exact hgood)
        rw [decide_eq_false hgood] at hf
        subst hno
        clear hall HOK HNO hv hgood HW HI
        go_wp2_with (first
          | (go_at_call 42; refine (hf.out _).mono ?_; rintro e w1 ⟨rfl, rfl⟩))
        go_ret
        exact ⟨rfl, rfl⟩
    · have ek : k = n := by omega
      have hki : ¬ ((k : Int) < (n : Int)) := by omega
      rw [ek] at hall
      have hok := HOK.out hall
      subst hok
      clear HOK HNO hall HW HI ek hlt hk
      go_wp2
      go_ret
      exact ⟨rfl, rfl⟩
/-! Which parts may be, apart. -/
theorem all10_yes (g off n cap : Nat) (zs : Nat → Int) (least top M : Int) (m : Nat) (hM : M = (m : Int)) (ht : least + ((2 ^ m : Nat) : Int) = top) (w : World) (h0 : -16 ≤ least) (h1 : least ≤ 16) (hm : m ≤ 16) (hn : n ≤ 16)
    (hI : ∀ i, i < n → w.cell? ⟨g, off + i, none⟩ = some (.int .i64 (zs i))) (h : ∀ i, i < n → least ≤ zs i ∧ zs i < top) :
    Calls Tryd.prog 52 #[.slice (some ⟨g, off, none⟩) n cap, .int .i64 least, .int .i64 M] w fun e w' => e = .returned (.bool true) ∧ w = w' := by
  subst ht
  have k := all10 g off n cap zs least M m hM w h0 h1 hm hn hI
  rw [decide_eq_true h] at k
  exact k
theorem all10_no (g off n cap : Nat) (zs : Nat → Int) (least top M : Int) (m : Nat) (hM : M = (m : Int)) (ht : least + ((2 ^ m : Nat) : Int) = top) (w : World) (h0 : -16 ≤ least) (h1 : least ≤ 16) (hm : m ≤ 16) (hn : n ≤ 16)
    (hI : ∀ i, i < n → w.cell? ⟨g, off + i, none⟩ = some (.int .i64 (zs i))) (h : ¬ ∀ i, i < n → least ≤ zs i ∧ zs i < top) :
    Calls Tryd.prog 52 #[.slice (some ⟨g, off, none⟩) n cap, .int .i64 least, .int .i64 M] w fun e w' => e = .returned (.bool false) ∧ w = w' := by
  subst ht
  have k := all10 g off n cap zs least M m hM w h0 h1 hm hn hI
  rw [decide_eq_false h] at k
  exact k
theorem ok_true (Z : List Int) : okP true Z ↔ (∀ c, c < 3 → 0 ≤ Z.getD c 0 ∧ Z.getD c 0 < 32) ∧ (∀ c, c < 3 → -4 ≤ Z.getD (3 + c) 0 ∧ Z.getD (3 + c) 0 < 4) ∧ (∀ c, c < 2 → 0 ≤ Z.getD (6 + c) 0 ∧ Z.getD (6 + c) 0 < 8) ∧ (∀ c, c < 16 → 0 ≤ Z.getD (8 + c) 0 ∧ Z.getD (8 + c) 0 < 4) := by
  constructor
  · intro h
    refine ⟨fun c hc => by simpa [w1] using ok_a h hc, fun c hc => ?_, fun c hc => ok_t h hc, fun c hc => ok_w h hc⟩
    have := ok_b h hc
    exact this.1 rfl
  · rintro ⟨h1, h2, h3, h4⟩ j hj
    unfold lo hi
    by_cases c1 : j < 3
    · rw [if_neg (by omega), if_pos c1]
      simpa using h1 j c1
    · by_cases c2 : j < 6
      · have := h2 (j - 3) (by omega)
        rw [show 3 + (j - 3) = j by omega] at this
        rw [if_neg c1, if_pos c2]
        simpa [show 3 ≤ j ∧ j < 6 from by omega] using this
      · by_cases c3 : j < 8
        · have := h3 (j - 6) (by omega)
          rw [show 6 + (j - 6) = j by omega] at this
          rw [if_neg (by omega), if_neg c1, if_neg c2, if_pos c3]
          exact this
        · have := h4 (j - 8) (by omega)
          rw [show 8 + (j - 8) = j by omega] at this
          rw [if_neg (by omega), if_neg c1, if_neg c2, if_neg c3]
          exact this
theorem ok_false (Z : List Int) : okP false Z ↔ (∀ c, c < 3 → 0 ≤ Z.getD c 0 ∧ Z.getD c 0 < 16) ∧ (∀ c, c < 3 → 0 ≤ Z.getD (3 + c) 0 ∧ Z.getD (3 + c) 0 < 16) ∧ (∀ c, c < 2 → 0 ≤ Z.getD (6 + c) 0 ∧ Z.getD (6 + c) 0 < 8) ∧ (∀ c, c < 16 → 0 ≤ Z.getD (8 + c) 0 ∧ Z.getD (8 + c) 0 < 4) := by
  constructor
  · intro h
    refine ⟨fun c hc => by simpa [w1] using ok_a h hc, fun c hc => ?_, fun c hc => ok_t h hc, fun c hc => ok_w h hc⟩
    have := ok_b h hc
    exact this.2 rfl
  · rintro ⟨h1, h2, h3, h4⟩ j hj
    unfold lo hi
    by_cases c1 : j < 3
    · rw [if_neg (by omega), if_pos c1]
      simpa using h1 j c1
    · by_cases c2 : j < 6
      · have := h2 (j - 3) (by omega)
        rw [show 3 + (j - 3) = j by omega] at this
        rw [if_neg c1, if_pos c2]
        simpa [show 3 ≤ j ∧ j < 6 from by omega] using this
      · by_cases c3 : j < 8
        · have := h3 (j - 6) (by omega)
          rw [show 6 + (j - 6) = j by omega] at this
          rw [if_neg (by omega), if_neg c1, if_neg c2, if_pos c3]
          exact this
        · have := h4 (j - 8) (by omega)
          rw [show 8 + (j - 8) = j by omega] at this
          rw [if_neg (by omega), if_neg c1, if_neg c2, if_neg c3]
          exact this
theorem slice_at (T : TypeId) (n : Nat) (hl : Tryd.prog.arrayLen T = n) (he : Tryd.prog.elem T = 3) (hu : Tryd.prog.underlying T = some (.array n 3)) (g off : Nat) (u : World) : (Instr.sliceAt T (.pointer (some ⟨g, off, none⟩)) none none none).run Tryd.prog u = .ok (.slice (some ⟨g, off, none⟩) n n) u := by
  have hs : (Tryd.prog.info? 3).map (·.size) = some 1 := by kernel_rfl
  rw [run_sliceAt_array_all u T ⟨g, off, none⟩ (by rw [hl, he]; exact hu), he]
  cases hq : Tryd.prog.info? 3 with
  | none => simp [hq] at hs
  | some inf =>
    have hz : inf.size = 1 := by simpa [hq] using hs
    simp [slicedAt, sizeOf, typeInfo, hq, hz, hl, Addr.add]
theorem s3 (g off : Nat) (u : World) : (Instr.sliceAt 24 (.pointer (some ⟨g, off, none⟩)) none none none).run Tryd.prog u = .ok (.slice (some ⟨g, off, none⟩) 3 3) u := slice_at _ 3 (by kernel_rfl) (by kernel_rfl) Tryd.underlying24 g off u
theorem s2 (g off : Nat) (u : World) : (Instr.sliceAt 25 (.pointer (some ⟨g, off, none⟩)) none none none).run Tryd.prog u = .ok (.slice (some ⟨g, off, none⟩) 2 2) u := slice_at _ 2 (by kernel_rfl) (by kernel_rfl) Tryd.underlying25 g off u
theorem s16 (g off : Nat) (u : World) : (Instr.sliceAt 26 (.pointer (some ⟨g, off, none⟩)) none none none).run Tryd.prog u = .ok (.slice (some ⟨g, off, none⟩) 16 16) u := slice_at _ 16 (by kernel_rfl) (by kernel_rfl) Tryd.underlying26 g off u
set_option maxHeartbeats 4000000 in
set_option maxRecDepth 100000 in
theorem fits_true (f : Bool) (Z : List Int) (w : World) (hZ : Z.length = 24) : Calls Tryd.prog 34 #[.agg (blk true f Z).toArray] w fun e w' => e = .returned (.bool (decide (okP true Z))) ∧ Below w.heap.size w w' := by
  have E := Lib.hid (Kn.start w)
  have hs3 := s3
  have hs2 := s2
  have hs16 := s16
  have hW := Lib.hid (fun u => show Calls Tryd.prog 26 #[.bool true] u (fun e w' => e = .returned (.tuple #[.int .i64 5, .int .i64 3]) ∧ u = w') from widths_any true u)
  have hok := ok_true Z
  by_cases p1 : (∀ c, c < 3 → 0 ≤ Z.getD c 0 ∧ Z.getD c 0 < 32)
  · have q1 := Lib.hid (fun (g : Nat) (u : World) (hc : ∀ i, i < 3 → u.cell? ⟨g, 2 + i, none⟩ = some (.int .i64 (Z.getD i 0))) => show Calls Tryd.prog 52 #[.slice (some ⟨g, 2, none⟩) 3 3, .int .i64 0, .int .i64 5] u (fun e w' => e = .returned (.bool true) ∧ u = w') from all10_yes g 2 3 3 (fun c => Z.getD c 0) 0 32 5 5 rfl (by decide) u (by omega) (by omega) (by omega) (by omega) hc p1)
    by_cases p2 : (∀ c, c < 3 → -4 ≤ Z.getD (3 + c) 0 ∧ Z.getD (3 + c) 0 < 4)
    · have q2 := Lib.hid (fun (g : Nat) (u : World) (hc : ∀ i, i < 3 → u.cell? ⟨g, 5 + i, none⟩ = some (.int .i64 (Z.getD (3 + i) 0))) => show Calls Tryd.prog 52 #[.slice (some ⟨g, 5, none⟩) 3 3, .int .i64 (-4), .int .i64 3] u (fun e w' => e = .returned (.bool true) ∧ u = w') from all10_yes g 5 3 3 (fun c => Z.getD (3 + c) 0) (-4) 4 3 3 rfl (by decide) u (by omega) (by omega) (by omega) (by omega) hc p2)
      by_cases p3 : (∀ c, c < 2 → 0 ≤ Z.getD (6 + c) 0 ∧ Z.getD (6 + c) 0 < 8)
      · have q3 := Lib.hid (fun (g : Nat) (u : World) (hc : ∀ i, i < 2 → u.cell? ⟨g, 8 + i, none⟩ = some (.int .i64 (Z.getD (6 + i) 0))) => show Calls Tryd.prog 52 #[.slice (some ⟨g, 8, none⟩) 2 2, .int .i64 0, .int .i64 3] u (fun e w' => e = .returned (.bool true) ∧ u = w') from all10_yes g 8 2 2 (fun c => Z.getD (6 + c) 0) 0 8 3 3 rfl (by decide) u (by omega) (by omega) (by omega) (by omega) hc p3)
        by_cases p4 : (∀ c, c < 16 → 0 ≤ Z.getD (8 + c) 0 ∧ Z.getD (8 + c) 0 < 4)
        · have q4 := Lib.hid (fun (g : Nat) (u : World) (hc : ∀ i, i < 16 → u.cell? ⟨g, 10 + i, none⟩ = some (.int .i64 (Z.getD (8 + i) 0))) => show Calls Tryd.prog 52 #[.slice (some ⟨g, 10, none⟩) 16 16, .int .i64 0, .int .i64 2] u (fun e w' => e = .returned (.bool true) ∧ u = w') from all10_yes g 10 16 16 (fun c => Z.getD (8 + c) 0) 0 4 2 2 rfl (by decide) u (by omega) (by omega) (by omega) (by omega) hc p4)
          have hR := Lib.hid (show decide (okP true Z) = true from decide_eq_true (hok.2 ⟨p1, p2, p3, p4⟩))
          clear p1 p2 p3 p4
          clear hok
          go_enter Tryd.func34, Tryd.ntmps34
          go_wp2_with (first
            | (go_at_call 26; refine (hW.out _).mono ?_; clear hW; rintro e w1 ⟨rfl, rfl⟩)
            | (go_at_call 52; (with_reducible refine (q1.out g1 _ ?hc).mono ?_); (case hc => exact fun i hi => E.out.cell g1 (2 + i) (blk_z true f Z (by omega) (by omega))); rintro e w1 ⟨rfl, rfl⟩)
            | (go_at_call 52; (with_reducible refine (q2.out g1 _ ?hc).mono ?_); (case hc => exact fun i hi => E.out.cell g1 (5 + i) (blk_z true f Z (by omega) (by omega))); rintro e w1 ⟨rfl, rfl⟩)
            | (go_at_call 52; (with_reducible refine (q3.out g1 _ ?hc).mono ?_); (case hc => exact fun i hi => E.out.cell g1 (8 + i) (blk_z true f Z (by omega) (by omega))); rintro e w1 ⟨rfl, rfl⟩)
            | (go_at_call 52; (with_reducible refine (q4.out g1 _ ?hc).mono ?_); (case hc => exact fun i hi => E.out.cell g1 (10 + i) (blk_z true f Z (by omega) (by omega))); rintro e w1 ⟨rfl, rfl⟩)
            | ((with_reducible refine kn_bd (g := g1) E.out rfl rfl rfl ?_))
            | ((with_reducible refine kn_load E.out rfl rfl rfl rfl ?_)) | ((with_reducible refine kn_load_if E.out rfl rfl rfl rfl ?_)) | ((with_reducible refine kn_loads E.out rfl rfl rfl ?_ ?_); (focus (first | rfl | (simp only [i64s_length, u8s_length]; first | rfl | assumption | omega)))) | ((with_reducible refine kn_loads_if E.out rfl rfl rfl ?_ ?_); (focus (first | rfl | (simp only [i64s_length, u8s_length]; first | rfl | assumption | omega)))) | ((with_reducible refine kn_store1_int E.out rfl rfl rfl rfl rfl ?_); clear E; intro u E0; have E := Lib.hid E0; clear E0) | ((with_reducible refine kn_store1_slice E.out rfl rfl rfl rfl rfl ?_); clear E; intro u E0; have E := Lib.hid E0; clear E0) | ((with_reducible refine kn_store1_bool E.out rfl rfl rfl rfl rfl ?_); clear E; intro u E0; have E := Lib.hid E0; clear E0) | ((with_reducible refine kn_stores E.out rfl rfl rfl rfl rfl ?_ ?_ ?_); (focus (first | exact ⟨rfl, rfl⟩ | (simp only [i64s_length, u8s_length]; refine ⟨?_, ?_⟩ <;> first | rfl | assumption | omega))); (focus (first | exact i64s_one _ | exact u8s_one _ | simp [Value.oneCell'])); clear E; intro u E0; have E := Lib.hid E0; clear E0) | ((with_reducible refine kn_alloc (o := ⟨some 1, _, _, _, _, _⟩) E.out rfl rfl ?_); clear E; intro g1 u E0 hb0; have E := Lib.hid E0; clear E0 hb0) | ((with_reducible refine kn_box (o := ⟨some 1, _, _, _, _, _⟩) E.out rfl rfl rfl ?_); clear E; intro g1 u E0 hb0; have E := Lib.hid E0; clear E0 hb0) | ((with_reducible refine kn_box_int (o := ⟨some 1, _, _, _, _, _⟩) E.out rfl rfl rfl ?_); clear E; intro g1 u E0 hb0; have E := Lib.hid E0; clear E0 hb0) | ((with_reducible refine kn_box_slice (o := ⟨some 1, _, _, _, _, _⟩) E.out rfl rfl rfl ?_); clear E; intro g1 u E0 hb0; have E := Lib.hid E0; clear E0 hb0) | ((with_reducible refine kn_box_bool (o := ⟨some 1, _, _, _, _, _⟩) E.out rfl rfl rfl ?_); clear E; intro g1 u E0 hb0; have E := Lib.hid E0; clear E0 hb0) | ((with_reducible refine kn_box_func (o := ⟨some 1, _, _, _, _, _⟩) E.out rfl rfl rfl ?_); clear E; intro g1 u E0 hb0; have E := Lib.hid E0; clear E0 hb0) | ((with_reducible refine kn_alloc E.out rfl rfl ?_); clear E; intro g u E0 hb0; have E := Lib.hid E0; clear E0 hb0) | ((with_reducible refine kn_box E.out rfl rfl rfl ?_); clear E; intro g u E0 hb0; have E := Lib.hid E0; clear E0 hb0) | ((with_reducible refine kn_box_int E.out rfl rfl rfl ?_); clear E; intro g u E0 hb0; have E := Lib.hid E0; clear E0 hb0) | ((with_reducible refine kn_box_slice E.out rfl rfl rfl ?_); clear E; intro g u E0 hb0; have E := Lib.hid E0; clear E0 hb0) | ((with_reducible refine kn_box_bool E.out rfl rfl rfl ?_); clear E; intro g u E0 hb0; have E := Lib.hid E0; clear E0 hb0) | ((with_reducible refine kn_box_func E.out rfl rfl rfl ?_); clear E; intro g u E0 hb0; have E := Lib.hid E0; clear E0 hb0))
          go_ret
          exact ⟨by rw [hR.out]; rfl, E.out.bel⟩
        · have q4 := Lib.hid (fun (g : Nat) (u : World) (hc : ∀ i, i < 16 → u.cell? ⟨g, 10 + i, none⟩ = some (.int .i64 (Z.getD (8 + i) 0))) => show Calls Tryd.prog 52 #[.slice (some ⟨g, 10, none⟩) 16 16, .int .i64 0, .int .i64 2] u (fun e w' => e = .returned (.bool false) ∧ u = w') from all10_no g 10 16 16 (fun c => Z.getD (8 + c) 0) 0 4 2 2 rfl (by decide) u (by omega) (by omega) (by omega) (by omega) hc p4)
          have hR := Lib.hid (show decide (okP true Z) = false from decide_eq_false fun k => p4 (hok.1 k).2.2.2)
          clear p1 p2 p3 p4
          clear hok
          go_enter Tryd.func34, Tryd.ntmps34
          go_wp2_with (first
            | (go_at_call 26; refine (hW.out _).mono ?_; clear hW; rintro e w1 ⟨rfl, rfl⟩)
            | (go_at_call 52; (with_reducible refine (q1.out g1 _ ?hc).mono ?_); (case hc => exact fun i hi => E.out.cell g1 (2 + i) (blk_z true f Z (by omega) (by omega))); rintro e w1 ⟨rfl, rfl⟩)
            | (go_at_call 52; (with_reducible refine (q2.out g1 _ ?hc).mono ?_); (case hc => exact fun i hi => E.out.cell g1 (5 + i) (blk_z true f Z (by omega) (by omega))); rintro e w1 ⟨rfl, rfl⟩)
            | (go_at_call 52; (with_reducible refine (q3.out g1 _ ?hc).mono ?_); (case hc => exact fun i hi => E.out.cell g1 (8 + i) (blk_z true f Z (by omega) (by omega))); rintro e w1 ⟨rfl, rfl⟩)
            | (go_at_call 52; (with_reducible refine (q4.out g1 _ ?hc).mono ?_); (case hc => exact fun i hi => E.out.cell g1 (10 + i) (blk_z true f Z (by omega) (by omega))); rintro e w1 ⟨rfl, rfl⟩)
            | ((with_reducible refine kn_bd (g := g1) E.out rfl rfl rfl ?_))
            | ((with_reducible refine kn_load E.out rfl rfl rfl rfl ?_)) | ((with_reducible refine kn_load_if E.out rfl rfl rfl rfl ?_)) | ((with_reducible refine kn_loads E.out rfl rfl rfl ?_ ?_); (focus (first | rfl | (simp only [i64s_length, u8s_length]; first | rfl | assumption | omega)))) | ((with_reducible refine kn_loads_if E.out rfl rfl rfl ?_ ?_); (focus (first | rfl | (simp only [i64s_length, u8s_length]; first | rfl | assumption | omega)))) | ((with_reducible refine kn_store1_int E.out rfl rfl rfl rfl rfl ?_); clear E; intro u E0; have E := Lib.hid E0; clear E0) | ((with_reducible refine kn_store1_slice E.out rfl rfl rfl rfl rfl ?_); clear E; intro u E0; have E := Lib.hid E0; clear E0) | ((with_reducible refine kn_store1_bool E.out rfl rfl rfl rfl rfl ?_); clear E; intro u E0; have E := Lib.hid E0; clear E0) | ((with_reducible refine kn_stores E.out rfl rfl rfl rfl rfl ?_ ?_ ?_); (focus (first | exact ⟨rfl, rfl⟩ | (simp only [i64s_length, u8s_length]; refine ⟨?_, ?_⟩ <;> first | rfl | assumption | omega))); (focus (first | exact i64s_one _ | exact u8s_one _ | simp [Value.oneCell'])); clear E; intro u E0; have E := Lib.hid E0; clear E0) | ((with_reducible refine kn_alloc (o := ⟨some 1, _, _, _, _, _⟩) E.out rfl rfl ?_); clear E; intro g1 u E0 hb0; have E := Lib.hid E0; clear E0 hb0) | ((with_reducible refine kn_box (o := ⟨some 1, _, _, _, _, _⟩) E.out rfl rfl rfl ?_); clear E; intro g1 u E0 hb0; have E := Lib.hid E0; clear E0 hb0) | ((with_reducible refine kn_box_int (o := ⟨some 1, _, _, _, _, _⟩) E.out rfl rfl rfl ?_); clear E; intro g1 u E0 hb0; have E := Lib.hid E0; clear E0 hb0) | ((with_reducible refine kn_box_slice (o := ⟨some 1, _, _, _, _, _⟩) E.out rfl rfl rfl ?_); clear E; intro g1 u E0 hb0; have E := Lib.hid E0; clear E0 hb0) | ((with_reducible refine kn_box_bool (o := ⟨some 1, _, _, _, _, _⟩) E.out rfl rfl rfl ?_); clear E; intro g1 u E0 hb0; have E := Lib.hid E0; clear E0 hb0) | ((with_reducible refine kn_box_func (o := ⟨some 1, _, _, _, _, _⟩) E.out rfl rfl rfl ?_); clear E; intro g1 u E0 hb0; have E := Lib.hid E0; clear E0 hb0) | ((with_reducible refine kn_alloc E.out rfl rfl ?_); clear E; intro g u E0 hb0; have E := Lib.hid E0; clear E0 hb0) | ((with_reducible refine kn_box E.out rfl rfl rfl ?_); clear E; intro g u E0 hb0; have E := Lib.hid E0; clear E0 hb0) | ((with_reducible refine kn_box_int E.out rfl rfl rfl ?_); clear E; intro g u E0 hb0; have E := Lib.hid E0; clear E0 hb0) | ((with_reducible refine kn_box_slice E.out rfl rfl rfl ?_); clear E; intro g u E0 hb0; have E := Lib.hid E0; clear E0 hb0) | ((with_reducible refine kn_box_bool E.out rfl rfl rfl ?_); clear E; intro g u E0 hb0; have E := Lib.hid E0; clear E0 hb0) | ((with_reducible refine kn_box_func E.out rfl rfl rfl ?_); clear E; intro g u E0 hb0; have E := Lib.hid E0; clear E0 hb0))
          go_ret
          exact ⟨by rw [hR.out]; rfl, E.out.bel⟩
      · have q3 := Lib.hid (fun (g : Nat) (u : World) (hc : ∀ i, i < 2 → u.cell? ⟨g, 8 + i, none⟩ = some (.int .i64 (Z.getD (6 + i) 0))) => show Calls Tryd.prog 52 #[.slice (some ⟨g, 8, none⟩) 2 2, .int .i64 0, .int .i64 3] u (fun e w' => e = .returned (.bool false) ∧ u = w') from all10_no g 8 2 2 (fun c => Z.getD (6 + c) 0) 0 8 3 3 rfl (by decide) u (by omega) (by omega) (by omega) (by omega) hc p3)
        have hR := Lib.hid (show decide (okP true Z) = false from decide_eq_false fun k => p3 (hok.1 k).2.2.1)
        clear p1 p2 p3
        clear hok
        go_enter Tryd.func34, Tryd.ntmps34
        go_wp2_with (first
          | (go_at_call 26; refine (hW.out _).mono ?_; clear hW; rintro e w1 ⟨rfl, rfl⟩)
          | (go_at_call 52; (with_reducible refine (q1.out g1 _ ?hc).mono ?_); (case hc => exact fun i hi => E.out.cell g1 (2 + i) (blk_z true f Z (by omega) (by omega))); rintro e w1 ⟨rfl, rfl⟩)
          | (go_at_call 52; (with_reducible refine (q2.out g1 _ ?hc).mono ?_); (case hc => exact fun i hi => E.out.cell g1 (5 + i) (blk_z true f Z (by omega) (by omega))); rintro e w1 ⟨rfl, rfl⟩)
          | (go_at_call 52; (with_reducible refine (q3.out g1 _ ?hc).mono ?_); (case hc => exact fun i hi => E.out.cell g1 (8 + i) (blk_z true f Z (by omega) (by omega))); rintro e w1 ⟨rfl, rfl⟩)
          | ((with_reducible refine kn_bd (g := g1) E.out rfl rfl rfl ?_))
          | ((with_reducible refine kn_load E.out rfl rfl rfl rfl ?_)) | ((with_reducible refine kn_load_if E.out rfl rfl rfl rfl ?_)) | ((with_reducible refine kn_loads E.out rfl rfl rfl ?_ ?_); (focus (first | rfl | (simp only [i64s_length, u8s_length]; first | rfl | assumption | omega)))) | ((with_reducible refine kn_loads_if E.out rfl rfl rfl ?_ ?_); (focus (first | rfl | (simp only [i64s_length, u8s_length]; first | rfl | assumption | omega)))) | ((with_reducible refine kn_store1_int E.out rfl rfl rfl rfl rfl ?_); clear E; intro u E0; have E := Lib.hid E0; clear E0) | ((with_reducible refine kn_store1_slice E.out rfl rfl rfl rfl rfl ?_); clear E; intro u E0; have E := Lib.hid E0; clear E0) | ((with_reducible refine kn_store1_bool E.out rfl rfl rfl rfl rfl ?_); clear E; intro u E0; have E := Lib.hid E0; clear E0) | ((with_reducible refine kn_stores E.out rfl rfl rfl rfl rfl ?_ ?_ ?_); (focus (first | exact ⟨rfl, rfl⟩ | (simp only [i64s_length, u8s_length]; refine ⟨?_, ?_⟩ <;> first | rfl | assumption | omega))); (focus (first | exact i64s_one _ | exact u8s_one _ | simp [Value.oneCell'])); clear E; intro u E0; have E := Lib.hid E0; clear E0) | ((with_reducible refine kn_alloc (o := ⟨some 1, _, _, _, _, _⟩) E.out rfl rfl ?_); clear E; intro g1 u E0 hb0; have E := Lib.hid E0; clear E0 hb0) | ((with_reducible refine kn_box (o := ⟨some 1, _, _, _, _, _⟩) E.out rfl rfl rfl ?_); clear E; intro g1 u E0 hb0; have E := Lib.hid E0; clear E0 hb0) | ((with_reducible refine kn_box_int (o := ⟨some 1, _, _, _, _, _⟩) E.out rfl rfl rfl ?_); clear E; intro g1 u E0 hb0; have E := Lib.hid E0; clear E0 hb0) | ((with_reducible refine kn_box_slice (o := ⟨some 1, _, _, _, _, _⟩) E.out rfl rfl rfl ?_); clear E; intro g1 u E0 hb0; have E := Lib.hid E0; clear E0 hb0) | ((with_reducible refine kn_box_bool (o := ⟨some 1, _, _, _, _, _⟩) E.out rfl rfl rfl ?_); clear E; intro g1 u E0 hb0; have E := Lib.hid E0; clear E0 hb0) | ((with_reducible refine kn_box_func (o := ⟨some 1, _, _, _, _, _⟩) E.out rfl rfl rfl ?_); clear E; intro g1 u E0 hb0; have E := Lib.hid E0; clear E0 hb0) | ((with_reducible refine kn_alloc E.out rfl rfl ?_); clear E; intro g u E0 hb0; have E := Lib.hid E0; clear E0 hb0) | ((with_reducible refine kn_box E.out rfl rfl rfl ?_); clear E; intro g u E0 hb0; have E := Lib.hid E0; clear E0 hb0) | ((with_reducible refine kn_box_int E.out rfl rfl rfl ?_); clear E; intro g u E0 hb0; have E := Lib.hid E0; clear E0 hb0) | ((with_reducible refine kn_box_slice E.out rfl rfl rfl ?_); clear E; intro g u E0 hb0; have E := Lib.hid E0; clear E0 hb0) | ((with_reducible refine kn_box_bool E.out rfl rfl rfl ?_); clear E; intro g u E0 hb0; have E := Lib.hid E0; clear E0 hb0) | ((with_reducible refine kn_box_func E.out rfl rfl rfl ?_); clear E; intro g u E0 hb0; have E := Lib.hid E0; clear E0 hb0))
        go_ret
        exact ⟨by rw [hR.out]; rfl, E.out.bel⟩
    · have q2 := Lib.hid (fun (g : Nat) (u : World) (hc : ∀ i, i < 3 → u.cell? ⟨g, 5 + i, none⟩ = some (.int .i64 (Z.getD (3 + i) 0))) => show Calls Tryd.prog 52 #[.slice (some ⟨g, 5, none⟩) 3 3, .int .i64 (-4), .int .i64 3] u (fun e w' => e = .returned (.bool false) ∧ u = w') from all10_no g 5 3 3 (fun c => Z.getD (3 + c) 0) (-4) 4 3 3 rfl (by decide) u (by omega) (by omega) (by omega) (by omega) hc p2)
      have hR := Lib.hid (show decide (okP true Z) = false from decide_eq_false fun k => p2 (hok.1 k).2.1)
      clear p1 p2
      clear hok
      go_enter Tryd.func34, Tryd.ntmps34
      go_wp2_with (first
        | (go_at_call 26; refine (hW.out _).mono ?_; clear hW; rintro e w1 ⟨rfl, rfl⟩)
        | (go_at_call 52; (with_reducible refine (q1.out g1 _ ?hc).mono ?_); (case hc => exact fun i hi => E.out.cell g1 (2 + i) (blk_z true f Z (by omega) (by omega))); rintro e w1 ⟨rfl, rfl⟩)
        | (go_at_call 52; (with_reducible refine (q2.out g1 _ ?hc).mono ?_); (case hc => exact fun i hi => E.out.cell g1 (5 + i) (blk_z true f Z (by omega) (by omega))); rintro e w1 ⟨rfl, rfl⟩)
        | ((with_reducible refine kn_bd (g := g1) E.out rfl rfl rfl ?_))
        | ((with_reducible refine kn_load E.out rfl rfl rfl rfl ?_)) | ((with_reducible refine kn_load_if E.out rfl rfl rfl rfl ?_)) | ((with_reducible refine kn_loads E.out rfl rfl rfl ?_ ?_); (focus (first | rfl | (simp only [i64s_length, u8s_length]; first | rfl | assumption | omega)))) | ((with_reducible refine kn_loads_if E.out rfl rfl rfl ?_ ?_); (focus (first | rfl | (simp only [i64s_length, u8s_length]; first | rfl | assumption | omega)))) | ((with_reducible refine kn_store1_int E.out rfl rfl rfl rfl rfl ?_); clear E; intro u E0; have E := Lib.hid E0; clear E0) | ((with_reducible refine kn_store1_slice E.out rfl rfl rfl rfl rfl ?_); clear E; intro u E0; have E := Lib.hid E0; clear E0) | ((with_reducible refine kn_store1_bool E.out rfl rfl rfl rfl rfl ?_); clear E; intro u E0; have E := Lib.hid E0; clear E0) | ((with_reducible refine kn_stores E.out rfl rfl rfl rfl rfl ?_ ?_ ?_); (focus (first | exact ⟨rfl, rfl⟩ | (simp only [i64s_length, u8s_length]; refine ⟨?_, ?_⟩ <;> first | rfl | assumption | omega))); (focus (first | exact i64s_one _ | exact u8s_one _ | simp [Value.oneCell'])); clear E; intro u E0; have E := Lib.hid E0; clear E0) | ((with_reducible refine kn_alloc (o := ⟨some 1, _, _, _, _, _⟩) E.out rfl rfl ?_); clear E; intro g1 u E0 hb0; have E := Lib.hid E0; clear E0 hb0) | ((with_reducible refine kn_box (o := ⟨some 1, _, _, _, _, _⟩) E.out rfl rfl rfl ?_); clear E; intro g1 u E0 hb0; have E := Lib.hid E0; clear E0 hb0) | ((with_reducible refine kn_box_int (o := ⟨some 1, _, _, _, _, _⟩) E.out rfl rfl rfl ?_); clear E; intro g1 u E0 hb0; have E := Lib.hid E0; clear E0 hb0) | ((with_reducible refine kn_box_slice (o := ⟨some 1, _, _, _, _, _⟩) E.out rfl rfl rfl ?_); clear E; intro g1 u E0 hb0; have E := Lib.hid E0; clear E0 hb0) | ((with_reducible refine kn_box_bool (o := ⟨some 1, _, _, _, _, _⟩) E.out rfl rfl rfl ?_); clear E; intro g1 u E0 hb0; have E := Lib.hid E0; clear E0 hb0) | ((with_reducible refine kn_box_func (o := ⟨some 1, _, _, _, _, _⟩) E.out rfl rfl rfl ?_); clear E; intro g1 u E0 hb0; have E := Lib.hid E0; clear E0 hb0) | ((with_reducible refine kn_alloc E.out rfl rfl ?_); clear E; intro g u E0 hb0; have E := Lib.hid E0; clear E0 hb0) | ((with_reducible refine kn_box E.out rfl rfl rfl ?_); clear E; intro g u E0 hb0; have E := Lib.hid E0; clear E0 hb0) | ((with_reducible refine kn_box_int E.out rfl rfl rfl ?_); clear E; intro g u E0 hb0; have E := Lib.hid E0; clear E0 hb0) | ((with_reducible refine kn_box_slice E.out rfl rfl rfl ?_); clear E; intro g u E0 hb0; have E := Lib.hid E0; clear E0 hb0) | ((with_reducible refine kn_box_bool E.out rfl rfl rfl ?_); clear E; intro g u E0 hb0; have E := Lib.hid E0; clear E0 hb0) | ((with_reducible refine kn_box_func E.out rfl rfl rfl ?_); clear E; intro g u E0 hb0; have E := Lib.hid E0; clear E0 hb0))
      go_ret
      exact ⟨by rw [hR.out]; rfl, E.out.bel⟩
  · have q1 := Lib.hid (fun (g : Nat) (u : World) (hc : ∀ i, i < 3 → u.cell? ⟨g, 2 + i, none⟩ = some (.int .i64 (Z.getD i 0))) => show Calls Tryd.prog 52 #[.slice (some ⟨g, 2, none⟩) 3 3, .int .i64 0, .int .i64 5] u (fun e w' => e = .returned (.bool false) ∧ u = w') from all10_no g 2 3 3 (fun c => Z.getD c 0) 0 32 5 5 rfl (by decide) u (by omega) (by omega) (by omega) (by omega) hc p1)
    have hR := Lib.hid (show decide (okP true Z) = false from decide_eq_false fun k => p1 (hok.1 k).1)
    clear p1
    clear hok
    go_enter Tryd.func34, Tryd.ntmps34
    go_wp2_with (first
      | (go_at_call 26; refine (hW.out _).mono ?_; clear hW; rintro e w1 ⟨rfl, rfl⟩)
      | (go_at_call 52; (with_reducible refine (q1.out g1 _ ?hc).mono ?_); (case hc => exact fun i hi => E.out.cell g1 (2 + i) (blk_z true f Z (by omega) (by omega))); rintro e w1 ⟨rfl, rfl⟩)
      | ((with_reducible refine kn_bd (g := g1) E.out rfl rfl rfl ?_))
      | ((with_reducible refine kn_load E.out rfl rfl rfl rfl ?_)) | ((with_reducible refine kn_load_if E.out rfl rfl rfl rfl ?_)) | ((with_reducible refine kn_loads E.out rfl rfl rfl ?_ ?_); (focus (first | rfl | (simp only [i64s_length, u8s_length]; first | rfl | assumption | omega)))) | ((with_reducible refine kn_loads_if E.out rfl rfl rfl ?_ ?_); (focus (first | rfl | (simp only [i64s_length, u8s_length]; first | rfl | assumption | omega)))) | ((with_reducible refine kn_store1_int E.out rfl rfl rfl rfl rfl ?_); clear E; intro u E0; have E := Lib.hid E0; clear E0) | ((with_reducible refine kn_store1_slice E.out rfl rfl rfl rfl rfl ?_); clear E; intro u E0; have E := Lib.hid E0; clear E0) | ((with_reducible refine kn_store1_bool E.out rfl rfl rfl rfl rfl ?_); clear E; intro u E0; have E := Lib.hid E0; clear E0) | ((with_reducible refine kn_stores E.out rfl rfl rfl rfl rfl ?_ ?_ ?_); (focus (first | exact ⟨rfl, rfl⟩ | (simp only [i64s_length, u8s_length]; refine ⟨?_, ?_⟩ <;> first | rfl | assumption | omega))); (focus (first | exact i64s_one _ | exact u8s_one _ | simp [Value.oneCell'])); clear E; intro u E0; have E := Lib.hid E0; clear E0) | ((with_reducible refine kn_alloc (o := ⟨some 1, _, _, _, _, _⟩) E.out rfl rfl ?_); clear E; intro g1 u E0 hb0; have E := Lib.hid E0; clear E0 hb0) | ((with_reducible refine kn_box (o := ⟨some 1, _, _, _, _, _⟩) E.out rfl rfl rfl ?_); clear E; intro g1 u E0 hb0; have E := Lib.hid E0; clear E0 hb0) | ((with_reducible refine kn_box_int (o := ⟨some 1, _, _, _, _, _⟩) E.out rfl rfl rfl ?_); clear E; intro g1 u E0 hb0; have E := Lib.hid E0; clear E0 hb0) | ((with_reducible refine kn_box_slice (o := ⟨some 1, _, _, _, _, _⟩) E.out rfl rfl rfl ?_); clear E; intro g1 u E0 hb0; have E := Lib.hid E0; clear E0 hb0) | ((with_reducible refine kn_box_bool (o := ⟨some 1, _, _, _, _, _⟩) E.out rfl rfl rfl ?_); clear E; intro g1 u E0 hb0; have E := Lib.hid E0; clear E0 hb0) | ((with_reducible refine kn_box_func (o := ⟨some 1, _, _, _, _, _⟩) E.out rfl rfl rfl ?_); clear E; intro g1 u E0 hb0; have E := Lib.hid E0; clear E0 hb0) | ((with_reducible refine kn_alloc E.out rfl rfl ?_); clear E; intro g u E0 hb0; have E := Lib.hid E0; clear E0 hb0) | ((with_reducible refine kn_box E.out rfl rfl rfl ?_); clear E; intro g u E0 hb0; have E := Lib.hid E0; clear E0 hb0) | ((with_reducible refine kn_box_int E.out rfl rfl rfl ?_); clear E; intro g u E0 hb0; have E := Lib.hid E0; clear E0 hb0) | ((with_reducible refine kn_box_slice E.out rfl rfl rfl ?_); clear E; intro g u E0 hb0; have E := Lib.hid E0; clear E0 hb0) | ((with_reducible refine kn_box_bool E.out rfl rfl rfl ?_); clear E; intro g u E0 hb0; have E := Lib.hid E0; clear E0 hb0) | ((with_reducible refine kn_box_func E.out rfl rfl rfl ?_); clear E; intro g u E0 hb0; have E := Lib.hid E0; clear E0 hb0))
    go_ret
    exact ⟨by rw [hR.out]; rfl, E.out.bel⟩
set_option maxHeartbeats 4000000 in
set_option maxRecDepth 100000 in
theorem fits_false (f : Bool) (Z : List Int) (w : World) (hZ : Z.length = 24) : Calls Tryd.prog 34 #[.agg (blk false f Z).toArray] w fun e w' => e = .returned (.bool (decide (okP false Z))) ∧ Below w.heap.size w w' := by
  have E := Lib.hid (Kn.start w)
  have hs3 := s3
  have hs2 := s2
  have hs16 := s16
  have hW := Lib.hid (fun u => show Calls Tryd.prog 26 #[.bool false] u (fun e w' => e = .returned (.tuple #[.int .i64 4, .int .i64 4]) ∧ u = w') from widths_any false u)
  have hok := ok_false Z
  by_cases p1 : (∀ c, c < 3 → 0 ≤ Z.getD c 0 ∧ Z.getD c 0 < 16)
  · have q1 := Lib.hid (fun (g : Nat) (u : World) (hc : ∀ i, i < 3 → u.cell? ⟨g, 2 + i, none⟩ = some (.int .i64 (Z.getD i 0))) => show Calls Tryd.prog 52 #[.slice (some ⟨g, 2, none⟩) 3 3, .int .i64 0, .int .i64 4] u (fun e w' => e = .returned (.bool true) ∧ u = w') from all10_yes g 2 3 3 (fun c => Z.getD c 0) 0 16 4 4 rfl (by decide) u (by omega) (by omega) (by omega) (by omega) hc p1)
    by_cases p2 : (∀ c, c < 3 → 0 ≤ Z.getD (3 + c) 0 ∧ Z.getD (3 + c) 0 < 16)
    · have q2 := Lib.hid (fun (g : Nat) (u : World) (hc : ∀ i, i < 3 → u.cell? ⟨g, 5 + i, none⟩ = some (.int .i64 (Z.getD (3 + i) 0))) => show Calls Tryd.prog 52 #[.slice (some ⟨g, 5, none⟩) 3 3, .int .i64 0, .int .i64 4] u (fun e w' => e = .returned (.bool true) ∧ u = w') from all10_yes g 5 3 3 (fun c => Z.getD (3 + c) 0) 0 16 4 4 rfl (by decide) u (by omega) (by omega) (by omega) (by omega) hc p2)
      by_cases p3 : (∀ c, c < 2 → 0 ≤ Z.getD (6 + c) 0 ∧ Z.getD (6 + c) 0 < 8)
      · have q3 := Lib.hid (fun (g : Nat) (u : World) (hc : ∀ i, i < 2 → u.cell? ⟨g, 8 + i, none⟩ = some (.int .i64 (Z.getD (6 + i) 0))) => show Calls Tryd.prog 52 #[.slice (some ⟨g, 8, none⟩) 2 2, .int .i64 0, .int .i64 3] u (fun e w' => e = .returned (.bool true) ∧ u = w') from all10_yes g 8 2 2 (fun c => Z.getD (6 + c) 0) 0 8 3 3 rfl (by decide) u (by omega) (by omega) (by omega) (by omega) hc p3)
        by_cases p4 : (∀ c, c < 16 → 0 ≤ Z.getD (8 + c) 0 ∧ Z.getD (8 + c) 0 < 4)
        · have q4 := Lib.hid (fun (g : Nat) (u : World) (hc : ∀ i, i < 16 → u.cell? ⟨g, 10 + i, none⟩ = some (.int .i64 (Z.getD (8 + i) 0))) => show Calls Tryd.prog 52 #[.slice (some ⟨g, 10, none⟩) 16 16, .int .i64 0, .int .i64 2] u (fun e w' => e = .returned (.bool true) ∧ u = w') from all10_yes g 10 16 16 (fun c => Z.getD (8 + c) 0) 0 4 2 2 rfl (by decide) u (by omega) (by omega) (by omega) (by omega) hc p4)
          have hR := Lib.hid (show decide (okP false Z) = true from decide_eq_true (hok.2 ⟨p1, p2, p3, p4⟩))
          clear p1 p2 p3 p4
          clear hok
          go_enter Tryd.func34, Tryd.ntmps34
          go_wp2_with (first
            | (go_at_call 26; refine (hW.out _).mono ?_; clear hW; rintro e w1 ⟨rfl, rfl⟩)
            | (go_at_call 52; (with_reducible refine (q1.out g1 _ ?hc).mono ?_); (case hc => exact fun i hi => E.out.cell g1 (2 + i) (blk_z false f Z (by omega) (by omega))); rintro e w1 ⟨rfl, rfl⟩)
            | (go_at_call 52; (with_reducible refine (q2.out g1 _ ?hc).mono ?_); (case hc => exact fun i hi => E.out.cell g1 (5 + i) (blk_z false f Z (by omega) (by omega))); rintro e w1 ⟨rfl, rfl⟩)
            | (go_at_call 52; (with_reducible refine (q3.out g1 _ ?hc).mono ?_); (case hc => exact fun i hi => E.out.cell g1 (8 + i) (blk_z false f Z (by omega) (by omega))); rintro e w1 ⟨rfl, rfl⟩)
            | (go_at_call 52; (with_reducible refine (q4.out g1 _ ?hc).mono ?_); (case hc => exact fun i hi => E.out.cell g1 (10 + i) (blk_z false f Z (by omega) (by omega))); rintro e w1 ⟨rfl, rfl⟩)
            | ((with_reducible refine kn_bd (g := g1) E.out rfl rfl rfl ?_))
            | ((with_reducible refine kn_load E.out rfl rfl rfl rfl ?_)) | ((with_reducible refine kn_load_if E.out rfl rfl rfl rfl ?_)) | ((with_reducible refine kn_loads E.out rfl rfl rfl ?_ ?_); (focus (first | rfl | (simp only [i64s_length, u8s_length]; first | rfl | assumption | omega)))) | ((with_reducible refine kn_loads_if E.out rfl rfl rfl ?_ ?_); (focus (first | rfl | (simp only [i64s_length, u8s_length]; first | rfl | assumption | omega)))) | ((with_reducible refine kn_store1_int E.out rfl rfl rfl rfl rfl ?_); clear E; intro u E0; have E := Lib.hid E0; clear E0) | ((with_reducible refine kn_store1_slice E.out rfl rfl rfl rfl rfl ?_); clear E; intro u E0; have E := Lib.hid E0; clear E0) | ((with_reducible refine kn_store1_bool E.out rfl rfl rfl rfl rfl ?_); clear E; intro u E0; have E := Lib.hid E0; clear E0) | ((with_reducible refine kn_stores E.out rfl rfl rfl rfl rfl ?_ ?_ ?_); (focus (first | exact ⟨rfl, rfl⟩ | (simp only [i64s_length, u8s_length]; refine ⟨?_, ?_⟩ <;> first | rfl | assumption | omega))); (focus (first | exact i64s_one _ | exact u8s_one _ | simp [Value.oneCell'])); clear E; intro u E0; have E := Lib.hid E0; clear E0) | ((with_reducible refine kn_alloc (o := ⟨some 1, _, _, _, _, _⟩) E.out rfl rfl ?_); clear E; intro g1 u E0 hb0; have E := Lib.hid E0; clear E0 hb0) | ((with_reducible refine kn_box (o := ⟨some 1, _, _, _, _, _⟩) E.out rfl rfl rfl ?_); clear E; intro g1 u E0 hb0; have E := Lib.hid E0; clear E0 hb0) | ((with_reducible refine kn_box_int (o := ⟨some 1, _, _, _, _, _⟩) E.out rfl rfl rfl ?_); clear E; intro g1 u E0 hb0; have E := Lib.hid E0; clear E0 hb0) | ((with_reducible refine kn_box_slice (o := ⟨some 1, _, _, _, _, _⟩) E.out rfl rfl rfl ?_); clear E; intro g1 u E0 hb0; have E := Lib.hid E0; clear E0 hb0) | ((with_reducible refine kn_box_bool (o := ⟨some 1, _, _, _, _, _⟩) E.out rfl rfl rfl ?_); clear E; intro g1 u E0 hb0; have E := Lib.hid E0; clear E0 hb0) | ((with_reducible refine kn_box_func (o := ⟨some 1, _, _, _, _, _⟩) E.out rfl rfl rfl ?_); clear E; intro g1 u E0 hb0; have E := Lib.hid E0; clear E0 hb0) | ((with_reducible refine kn_alloc E.out rfl rfl ?_); clear E; intro g u E0 hb0; have E := Lib.hid E0; clear E0 hb0) | ((with_reducible refine kn_box E.out rfl rfl rfl ?_); clear E; intro g u E0 hb0; have E := Lib.hid E0; clear E0 hb0) | ((with_reducible refine kn_box_int E.out rfl rfl rfl ?_); clear E; intro g u E0 hb0; have E := Lib.hid E0; clear E0 hb0) | ((with_reducible refine kn_box_slice E.out rfl rfl rfl ?_); clear E; intro g u E0 hb0; have E := Lib.hid E0; clear E0 hb0) | ((with_reducible refine kn_box_bool E.out rfl rfl rfl ?_); clear E; intro g u E0 hb0; have E := Lib.hid E0; clear E0 hb0) | ((with_reducible refine kn_box_func E.out rfl rfl rfl ?_); clear E; intro g u E0 hb0; have E := Lib.hid E0; clear E0 hb0))
          go_ret
          exact ⟨by rw [hR.out]; rfl, E.out.bel⟩
        · have q4 := Lib.hid (fun (g : Nat) (u : World) (hc : ∀ i, i < 16 → u.cell? ⟨g, 10 + i, none⟩ = some (.int .i64 (Z.getD (8 + i) 0))) => show Calls Tryd.prog 52 #[.slice (some ⟨g, 10, none⟩) 16 16, .int .i64 0, .int .i64 2] u (fun e w' => e = .returned (.bool false) ∧ u = w') from all10_no g 10 16 16 (fun c => Z.getD (8 + c) 0) 0 4 2 2 rfl (by decide) u (by omega) (by omega) (by omega) (by omega) hc p4)
          have hR := Lib.hid (show decide (okP false Z) = false from decide_eq_false fun k => p4 (hok.1 k).2.2.2)
          clear p1 p2 p3 p4
          clear hok
          go_enter Tryd.func34, Tryd.ntmps34
          go_wp2_with (first
            | (go_at_call 26; refine (hW.out _).mono ?_; clear hW; rintro e w1 ⟨rfl, rfl⟩)
            | (go_at_call 52; (with_reducible refine (q1.out g1 _ ?hc).mono ?_); (case hc => exact fun i hi => E.out.cell g1 (2 + i) (blk_z false f Z (by omega) (by omega))); rintro e w1 ⟨rfl, rfl⟩)
            | (go_at_call 52; (with_reducible refine (q2.out g1 _ ?hc).mono ?_); (case hc => exact fun i hi => E.out.cell g1 (5 + i) (blk_z false f Z (by omega) (by omega))); rintro e w1 ⟨rfl, rfl⟩)
            | (go_at_call 52; (with_reducible refine (q3.out g1 _ ?hc).mono ?_); (case hc => exact fun i hi => E.out.cell g1 (8 + i) (blk_z false f Z (by omega) (by omega))); rintro e w1 ⟨rfl, rfl⟩)
            | (go_at_call 52; (with_reducible refine (q4.out g1 _ ?hc).mono ?_); (case hc => exact fun i hi => E.out.cell g1 (10 + i) (blk_z false f Z (by omega) (by omega))); rintro e w1 ⟨rfl, rfl⟩)
            | ((with_reducible refine kn_bd (g := g1) E.out rfl rfl rfl ?_))
            | ((with_reducible refine kn_load E.out rfl rfl rfl rfl ?_)) | ((with_reducible refine kn_load_if E.out rfl rfl rfl rfl ?_)) | ((with_reducible refine kn_loads E.out rfl rfl rfl ?_ ?_); (focus (first | rfl | (simp only [i64s_length, u8s_length]; first | rfl | assumption | omega)))) | ((with_reducible refine kn_loads_if E.out rfl rfl rfl ?_ ?_); (focus (first | rfl | (simp only [i64s_length, u8s_length]; first | rfl | assumption | omega)))) | ((with_reducible refine kn_store1_int E.out rfl rfl rfl rfl rfl ?_); clear E; intro u E0; have E := Lib.hid E0; clear E0) | ((with_reducible refine kn_store1_slice E.out rfl rfl rfl rfl rfl ?_); clear E; intro u E0; have E := Lib.hid E0; clear E0) | ((with_reducible refine kn_store1_bool E.out rfl rfl rfl rfl rfl ?_); clear E; intro u E0; have E := Lib.hid E0; clear E0) | ((with_reducible refine kn_stores E.out rfl rfl rfl rfl rfl ?_ ?_ ?_); (focus (first | exact ⟨rfl, rfl⟩ | (simp only [i64s_length, u8s_length]; refine ⟨?_, ?_⟩ <;> first | rfl | assumption | omega))); (focus (first | exact i64s_one _ | exact u8s_one _ | simp [Value.oneCell'])); clear E; intro u E0; have E := Lib.hid E0; clear E0) | ((with_reducible refine kn_alloc (o := ⟨some 1, _, _, _, _, _⟩) E.out rfl rfl ?_); clear E; intro g1 u E0 hb0; have E := Lib.hid E0; clear E0 hb0) | ((with_reducible refine kn_box (o := ⟨some 1, _, _, _, _, _⟩) E.out rfl rfl rfl ?_); clear E; intro g1 u E0 hb0; have E := Lib.hid E0; clear E0 hb0) | ((with_reducible refine kn_box_int (o := ⟨some 1, _, _, _, _, _⟩) E.out rfl rfl rfl ?_); clear E; intro g1 u E0 hb0; have E := Lib.hid E0; clear E0 hb0) | ((with_reducible refine kn_box_slice (o := ⟨some 1, _, _, _, _, _⟩) E.out rfl rfl rfl ?_); clear E; intro g1 u E0 hb0; have E := Lib.hid E0; clear E0 hb0) | ((with_reducible refine kn_box_bool (o := ⟨some 1, _, _, _, _, _⟩) E.out rfl rfl rfl ?_); clear E; intro g1 u E0 hb0; have E := Lib.hid E0; clear E0 hb0) | ((with_reducible refine kn_box_func (o := ⟨some 1, _, _, _, _, _⟩) E.out rfl rfl rfl ?_); clear E; intro g1 u E0 hb0; have E := Lib.hid E0; clear E0 hb0) | ((with_reducible refine kn_alloc E.out rfl rfl ?_); clear E; intro g u E0 hb0; have E := Lib.hid E0; clear E0 hb0) | ((with_reducible refine kn_box E.out rfl rfl rfl ?_); clear E; intro g u E0 hb0; have E := Lib.hid E0; clear E0 hb0) | ((with_reducible refine kn_box_int E.out rfl rfl rfl ?_); clear E; intro g u E0 hb0; have E := Lib.hid E0; clear E0 hb0) | ((with_reducible refine kn_box_slice E.out rfl rfl rfl ?_); clear E; intro g u E0 hb0; have E := Lib.hid E0; clear E0 hb0) | ((with_reducible refine kn_box_bool E.out rfl rfl rfl ?_); clear E; intro g u E0 hb0; have E := Lib.hid E0; clear E0 hb0) | ((with_reducible refine kn_box_func E.out rfl rfl rfl ?_); clear E; intro g u E0 hb0; have E := Lib.hid E0; clear E0 hb0))
          go_ret
          exact ⟨by rw [hR.out]; rfl, E.out.bel⟩
      · have q3 := Lib.hid (fun (g : Nat) (u : World) (hc : ∀ i, i < 2 → u.cell? ⟨g, 8 + i, none⟩ = some (.int .i64 (Z.getD (6 + i) 0))) => show Calls Tryd.prog 52 #[.slice (some ⟨g, 8, none⟩) 2 2, .int .i64 0, .int .i64 3] u (fun e w' => e = .returned (.bool false) ∧ u = w') from all10_no g 8 2 2 (fun c => Z.getD (6 + c) 0) 0 8 3 3 rfl (by decide) u (by omega) (by omega) (by omega) (by omega) hc p3)
        have hR := Lib.hid (show decide (okP false Z) = false from decide_eq_false fun k => p3 (hok.1 k).2.2.1)
        clear p1 p2 p3
        clear hok
        go_enter Tryd.func34, Tryd.ntmps34
        go_wp2_with (first
          | (go_at_call 26; refine (hW.out _).mono ?_; clear hW; rintro e w1 ⟨rfl, rfl⟩)
          | (go_at_call 52; (with_reducible refine (q1.out g1 _ ?hc).mono ?_); (case hc => exact fun i hi => E.out.cell g1 (2 + i) (blk_z false f Z (by omega) (by omega))); rintro e w1 ⟨rfl, rfl⟩)
          | (go_at_call 52; (with_reducible refine (q2.out g1 _ ?hc).mono ?_); (case hc => exact fun i hi => E.out.cell g1 (5 + i) (blk_z false f Z (by omega) (by omega))); rintro e w1 ⟨rfl, rfl⟩)
          | (go_at_call 52; (with_reducible refine (q3.out g1 _ ?hc).mono ?_); (case hc => exact fun i hi => E.out.cell g1 (8 + i) (blk_z false f Z (by omega) (by omega))); rintro e w1 ⟨rfl, rfl⟩)
          | ((with_reducible refine kn_bd (g := g1) E.out rfl rfl rfl ?_))
          | ((with_reducible refine kn_load E.out rfl rfl rfl rfl ?_)) | ((with_reducible refine kn_load_if E.out rfl rfl rfl rfl ?_)) | ((with_reducible refine kn_loads E.out rfl rfl rfl ?_ ?_); (focus (first | rfl | (simp only [i64s_length, u8s_length]; first | rfl | assumption | omega)))) | ((with_reducible refine kn_loads_if E.out rfl rfl rfl ?_ ?_); (focus (first | rfl | (simp only [i64s_length, u8s_length]; first | rfl | assumption | omega)))) | ((with_reducible refine kn_store1_int E.out rfl rfl rfl rfl rfl ?_); clear E; intro u E0; have E := Lib.hid E0; clear E0) | ((with_reducible refine kn_store1_slice E.out rfl rfl rfl rfl rfl ?_); clear E; intro u E0; have E := Lib.hid E0; clear E0) | ((with_reducible refine kn_store1_bool E.out rfl rfl rfl rfl rfl ?_); clear E; intro u E0; have E := Lib.hid E0; clear E0) | ((with_reducible refine kn_stores E.out rfl rfl rfl rfl rfl ?_ ?_ ?_); (focus (first | exact ⟨rfl, rfl⟩ | (simp only [i64s_length, u8s_length]; refine ⟨?_, ?_⟩ <;> first | rfl | assumption | omega))); (focus (first | exact i64s_one _ | exact u8s_one _ | simp [Value.oneCell'])); clear E; intro u E0; have E := Lib.hid E0; clear E0) | ((with_reducible refine kn_alloc (o := ⟨some 1, _, _, _, _, _⟩) E.out rfl rfl ?_); clear E; intro g1 u E0 hb0; have E := Lib.hid E0; clear E0 hb0) | ((with_reducible refine kn_box (o := ⟨some 1, _, _, _, _, _⟩) E.out rfl rfl rfl ?_); clear E; intro g1 u E0 hb0; have E := Lib.hid E0; clear E0 hb0) | ((with_reducible refine kn_box_int (o := ⟨some 1, _, _, _, _, _⟩) E.out rfl rfl rfl ?_); clear E; intro g1 u E0 hb0; have E := Lib.hid E0; clear E0 hb0) | ((with_reducible refine kn_box_slice (o := ⟨some 1, _, _, _, _, _⟩) E.out rfl rfl rfl ?_); clear E; intro g1 u E0 hb0; have E := Lib.hid E0; clear E0 hb0) | ((with_reducible refine kn_box_bool (o := ⟨some 1, _, _, _, _, _⟩) E.out rfl rfl rfl ?_); clear E; intro g1 u E0 hb0; have E := Lib.hid E0; clear E0 hb0) | ((with_reducible refine kn_box_func (o := ⟨some 1, _, _, _, _, _⟩) E.out rfl rfl rfl ?_); clear E; intro g1 u E0 hb0; have E := Lib.hid E0; clear E0 hb0) | ((with_reducible refine kn_alloc E.out rfl rfl ?_); clear E; intro g u E0 hb0; have E := Lib.hid E0; clear E0 hb0) | ((with_reducible refine kn_box E.out rfl rfl rfl ?_); clear E; intro g u E0 hb0; have E := Lib.hid E0; clear E0 hb0) | ((with_reducible refine kn_box_int E.out rfl rfl rfl ?_); clear E; intro g u E0 hb0; have E := Lib.hid E0; clear E0 hb0) | ((with_reducible refine kn_box_slice E.out rfl rfl rfl ?_); clear E; intro g u E0 hb0; have E := Lib.hid E0; clear E0 hb0) | ((with_reducible refine kn_box_bool E.out rfl rfl rfl ?_); clear E; intro g u E0 hb0; have E := Lib.hid E0; clear E0 hb0) | ((with_reducible refine kn_box_func E.out rfl rfl rfl ?_); clear E; intro g u E0 hb0; have E := Lib.hid E0; clear E0 hb0))
        go_ret
        exact ⟨by rw [hR.out]; rfl, E.out.bel⟩
    · have q2 := Lib.hid (fun (g : Nat) (u : World) (hc : ∀ i, i < 3 → u.cell? ⟨g, 5 + i, none⟩ = some (.int .i64 (Z.getD (3 + i) 0))) => show Calls Tryd.prog 52 #[.slice (some ⟨g, 5, none⟩) 3 3, .int .i64 0, .int .i64 4] u (fun e w' => e = .returned (.bool false) ∧ u = w') from all10_no g 5 3 3 (fun c => Z.getD (3 + c) 0) 0 16 4 4 rfl (by decide) u (by omega) (by omega) (by omega) (by omega) hc p2)
      have hR := Lib.hid (show decide (okP false Z) = false from decide_eq_false fun k => p2 (hok.1 k).2.1)
      clear p1 p2
      clear hok
      go_enter Tryd.func34, Tryd.ntmps34
      go_wp2_with (first
        | (go_at_call 26; refine (hW.out _).mono ?_; clear hW; rintro e w1 ⟨rfl, rfl⟩)
        | (go_at_call 52; (with_reducible refine (q1.out g1 _ ?hc).mono ?_); (case hc => exact fun i hi => E.out.cell g1 (2 + i) (blk_z false f Z (by omega) (by omega))); rintro e w1 ⟨rfl, rfl⟩)
        | (go_at_call 52; (with_reducible refine (q2.out g1 _ ?hc).mono ?_); (case hc => exact fun i hi => E.out.cell g1 (5 + i) (blk_z false f Z (by omega) (by omega))); rintro e w1 ⟨rfl, rfl⟩)
        | ((with_reducible refine kn_bd (g := g1) E.out rfl rfl rfl ?_))
        | ((with_reducible refine kn_load E.out rfl rfl rfl rfl ?_)) | ((with_reducible refine kn_load_if E.out rfl rfl rfl rfl ?_)) | ((with_reducible refine kn_loads E.out rfl rfl rfl ?_ ?_); (focus (first | rfl | (simp only [i64s_length, u8s_length]; first | rfl | assumption | omega)))) | ((with_reducible refine kn_loads_if E.out rfl rfl rfl ?_ ?_); (focus (first | rfl | (simp only [i64s_length, u8s_length]; first | rfl | assumption | omega)))) | ((with_reducible refine kn_store1_int E.out rfl rfl rfl rfl rfl ?_); clear E; intro u E0; have E := Lib.hid E0; clear E0) | ((with_reducible refine kn_store1_slice E.out rfl rfl rfl rfl rfl ?_); clear E; intro u E0; have E := Lib.hid E0; clear E0) | ((with_reducible refine kn_store1_bool E.out rfl rfl rfl rfl rfl ?_); clear E; intro u E0; have E := Lib.hid E0; clear E0) | ((with_reducible refine kn_stores E.out rfl rfl rfl rfl rfl ?_ ?_ ?_); (focus (first | exact ⟨rfl, rfl⟩ | (simp only [i64s_length, u8s_length]; refine ⟨?_, ?_⟩ <;> first | rfl | assumption | omega))); (focus (first | exact i64s_one _ | exact u8s_one _ | simp [Value.oneCell'])); clear E; intro u E0; have E := Lib.hid E0; clear E0) | ((with_reducible refine kn_alloc (o := ⟨some 1, _, _, _, _, _⟩) E.out rfl rfl ?_); clear E; intro g1 u E0 hb0; have E := Lib.hid E0; clear E0 hb0) | ((with_reducible refine kn_box (o := ⟨some 1, _, _, _, _, _⟩) E.out rfl rfl rfl ?_); clear E; intro g1 u E0 hb0; have E := Lib.hid E0; clear E0 hb0) | ((with_reducible refine kn_box_int (o := ⟨some 1, _, _, _, _, _⟩) E.out rfl rfl rfl ?_); clear E; intro g1 u E0 hb0; have E := Lib.hid E0; clear E0 hb0) | ((with_reducible refine kn_box_slice (o := ⟨some 1, _, _, _, _, _⟩) E.out rfl rfl rfl ?_); clear E; intro g1 u E0 hb0; have E := Lib.hid E0; clear E0 hb0) | ((with_reducible refine kn_box_bool (o := ⟨some 1, _, _, _, _, _⟩) E.out rfl rfl rfl ?_); clear E; intro g1 u E0 hb0; have E := Lib.hid E0; clear E0 hb0) | ((with_reducible refine kn_box_func (o := ⟨some 1, _, _, _, _, _⟩) E.out rfl rfl rfl ?_); clear E; intro g1 u E0 hb0; have E := Lib.hid E0; clear E0 hb0) | ((with_reducible refine kn_alloc E.out rfl rfl ?_); clear E; intro g u E0 hb0; have E := Lib.hid E0; clear E0 hb0) | ((with_reducible refine kn_box E.out rfl rfl rfl ?_); clear E; intro g u E0 hb0; have E := Lib.hid E0; clear E0 hb0) | ((with_reducible refine kn_box_int E.out rfl rfl rfl ?_); clear E; intro g u E0 hb0; have E := Lib.hid E0; clear E0 hb0) | ((with_reducible refine kn_box_slice E.out rfl rfl rfl ?_); clear E; intro g u E0 hb0; have E := Lib.hid E0; clear E0 hb0) | ((with_reducible refine kn_box_bool E.out rfl rfl rfl ?_); clear E; intro g u E0 hb0; have E := Lib.hid E0; clear E0 hb0) | ((with_reducible refine kn_box_func E.out rfl rfl rfl ?_); clear E; intro g u E0 hb0; have E := Lib.hid E0; clear E0 hb0))
      go_ret
      exact ⟨by rw [hR.out]; rfl, E.out.bel⟩
  · have q1 := Lib.hid (fun (g : Nat) (u : World) (hc : ∀ i, i < 3 → u.cell? ⟨g, 2 + i, none⟩ = some (.int .i64 (Z.getD i 0))) => show Calls Tryd.prog 52 #[.slice (some ⟨g, 2, none⟩) 3 3, .int .i64 0, .int .i64 4] u (fun e w' => e = .returned (.bool false) ∧ u = w') from all10_no g 2 3 3 (fun c => Z.getD c 0) 0 16 4 4 rfl (by decide) u (by omega) (by omega) (by omega) (by omega) hc p1)
    have hR := Lib.hid (show decide (okP false Z) = false from decide_eq_false fun k => p1 (hok.1 k).1)
    clear p1
    clear hok
    go_enter Tryd.func34, Tryd.ntmps34
    go_wp2_with (first
      | (go_at_call 26; refine (hW.out _).mono ?_; clear hW; rintro e w1 ⟨rfl, rfl⟩)
      | (go_at_call 52; (with_reducible refine (q1.out g1 _ ?hc).mono ?_); (case hc => exact fun i hi => E.out.cell g1 (2 + i) (blk_z false f Z (by omega) (by omega))); rintro e w1 ⟨rfl, rfl⟩)
      | ((with_reducible refine kn_bd (g := g1) E.out rfl rfl rfl ?_))
      | ((with_reducible refine kn_load E.out rfl rfl rfl rfl ?_)) | ((with_reducible refine kn_load_if E.out rfl rfl rfl rfl ?_)) | ((with_reducible refine kn_loads E.out rfl rfl rfl ?_ ?_); (focus (first | rfl | (simp only [i64s_length, u8s_length]; first | rfl | assumption | omega)))) | ((with_reducible refine kn_loads_if E.out rfl rfl rfl ?_ ?_); (focus (first | rfl | (simp only [i64s_length, u8s_length]; first | rfl | assumption | omega)))) | ((with_reducible refine kn_store1_int E.out rfl rfl rfl rfl rfl ?_); clear E; intro u E0; have E := Lib.hid E0; clear E0) | ((with_reducible refine kn_store1_slice E.out rfl rfl rfl rfl rfl ?_); clear E; intro u E0; have E := Lib.hid E0; clear E0) | ((with_reducible refine kn_store1_bool E.out rfl rfl rfl rfl rfl ?_); clear E; intro u E0; have E := Lib.hid E0; clear E0) | ((with_reducible refine kn_stores E.out rfl rfl rfl rfl rfl ?_ ?_ ?_); (focus (first | exact ⟨rfl, rfl⟩ | (simp only [i64s_length, u8s_length]; refine ⟨?_, ?_⟩ <;> first | rfl | assumption | omega))); (focus (first | exact i64s_one _ | exact u8s_one _ | simp [Value.oneCell'])); clear E; intro u E0; have E := Lib.hid E0; clear E0) | ((with_reducible refine kn_alloc (o := ⟨some 1, _, _, _, _, _⟩) E.out rfl rfl ?_); clear E; intro g1 u E0 hb0; have E := Lib.hid E0; clear E0 hb0) | ((with_reducible refine kn_box (o := ⟨some 1, _, _, _, _, _⟩) E.out rfl rfl rfl ?_); clear E; intro g1 u E0 hb0; have E := Lib.hid E0; clear E0 hb0) | ((with_reducible refine kn_box_int (o := ⟨some 1, _, _, _, _, _⟩) E.out rfl rfl rfl ?_); clear E; intro g1 u E0 hb0; have E := Lib.hid E0; clear E0 hb0) | ((with_reducible refine kn_box_slice (o := ⟨some 1, _, _, _, _, _⟩) E.out rfl rfl rfl ?_); clear E; intro g1 u E0 hb0; have E := Lib.hid E0; clear E0 hb0) | ((with_reducible refine kn_box_bool (o := ⟨some 1, _, _, _, _, _⟩) E.out rfl rfl rfl ?_); clear E; intro g1 u E0 hb0; have E := Lib.hid E0; clear E0 hb0) | ((with_reducible refine kn_box_func (o := ⟨some 1, _, _, _, _, _⟩) E.out rfl rfl rfl ?_); clear E; intro g1 u E0 hb0; have E := Lib.hid E0; clear E0 hb0) | ((with_reducible refine kn_alloc E.out rfl rfl ?_); clear E; intro g u E0 hb0; have E := Lib.hid E0; clear E0 hb0) | ((with_reducible refine kn_box E.out rfl rfl rfl ?_); clear E; intro g u E0 hb0; have E := Lib.hid E0; clear E0 hb0) | ((with_reducible refine kn_box_int E.out rfl rfl rfl ?_); clear E; intro g u E0 hb0; have E := Lib.hid E0; clear E0 hb0) | ((with_reducible refine kn_box_slice E.out rfl rfl rfl ?_); clear E; intro g u E0 hb0; have E := Lib.hid E0; clear E0 hb0) | ((with_reducible refine kn_box_bool E.out rfl rfl rfl ?_); clear E; intro g u E0 hb0; have E := Lib.hid E0; clear E0 hb0) | ((with_reducible refine kn_box_func E.out rfl rfl rfl ?_); clear E; intro g u E0 hb0; have E := Lib.hid E0; clear E0 hb0))
    go_ret
    exact ⟨by rw [hR.out]; rfl, E.out.bel⟩
theorem fits_any (d f : Bool) (Z : List Int) (w : World) (hZ : Z.length = 24) : Calls Tryd.prog 34 #[.agg (blk d f Z).toArray] w fun e w' => e = .returned (.bool (decide (okP d Z))) ∧ Below w.heap.size w w' := by
  cases d
  · exact fits_false f Z w hZ
  · exact fits_true f Z w hZ
end Go.Proofs.YtjlkdmdepdoanaaDoor
