/- Two images compared: package image, its reference, the law's own. -/
import Derived.Test.YtbpdaijmclcbdaaImAt
import Derived.Test.YtbpdaijmclcbdaaPlain
import Derived.Laws.BytesArg
import Derived.Deep.QuietTactic
import Derived.BigQuiet
namespace Go.Proofs.Ytbpdaijmclcbdaa
open Go.RowKit
open Im

/-- 'string(b)' of bytes that read as xs. -/
theorem conv_bs (w : World) (B : Nat) (A : Option Addr) (n c : Nat) (xs : List Nat) (h : Bs w B A n xs) :
    (convert 22 9 (.slice A n c)).run Try.prog w = .ok (.string (strOfNums (xs.map Int.ofNat))) w := by
  rcases Nat.eq_zero_or_pos n with hn | hn
  · subst hn
    obtain rfl : xs = [] := List.eq_nil_of_length_eq_zero h.1
    rw [run_convert_bytes_string w 22 9 5 _ 0 c Try.underlying22 Try.underlying5 Try.underlying9]
    cases A <;> simp [Conv.bytesToString, loadCells]
    all_goals rfl
  · obtain ⟨b, off, rfl, _, hc⟩ := h.2.2 hn
    refine run_convert_bytes_arg w 22 5 Try.underlying22 Try.underlying5 b off n c _ (by simpa using h.1) (fun i hi => ?_) _ Try.underlying9
    have hl : i < xs.length := by rw [h.1]; exact hi
    rw [hc i hi]
    simp [List.getElem?_eq_getElem hl]
theorem str_inj {xs ys : List Nat} (hx : ∀ x ∈ xs, x < 256) (hy : ∀ y ∈ ys, y < 256) (h : strOfNums (xs.map Int.ofNat) = strOfNums (ys.map Int.ofNat)) : xs = ys := by
  have h1 := congrArg (fun s => s.data.toList) h
  simp only [strOfNums_data, List.map_map] at h1
  have h2 := congrArg (List.map UInt8.toNat) h1
  rw [List.map_map, List.map_map] at h2
  have e : ∀ l : List Nat, (∀ x ∈ l, x < 256) → l.map (UInt8.toNat ∘ ((fun n : Int => UInt8.ofNat n.toNat) ∘ Int.ofNat)) = l := by
    intro l hl
    conv => rhs; rw [← List.map_id l]
    refine List.map_congr_left fun x hx => ?_
    have := hl x hx
    simp [Nat.mod_eq_of_lt this]
  rwa [e xs hx, e ys hy] at h2

theorem beq_any (A A' : Option Addr) (n n' c c' : Nat) (xs ys : List Nat) (w : World) (h : Bs w w.heap.size A n xs) (h' : Bs w w.heap.size A' n' ys) :
    Calls Try.prog 56 #[.slice A n c, .slice A' n' c'] w fun e w' => e = .returned (.bool (decide (xs = ys))) ∧ w = w' := by
  have h1 := conv_bs w _ A n c xs h
  have h2 := conv_bs w _ A' n' c' ys h'
  have hI := Lib.hid (str_inj h.2.1 h'.2.1)
  have hE := Lib.hid (show xs = ys → strOfNums (xs.map Int.ofNat) = strOfNums (ys.map Int.ofNat) from fun e => by rw [e])
  clear h h'
  generalize strOfNums (xs.map Int.ofNat) = s1 at *
  generalize strOfNums (ys.map Int.ofNat) = s2 at *
  go_enter Try.func56, Try.ntmps56
  go_wp2
  go_ret
  refine ⟨ret_bool ?_, rfl⟩
  by_cases he : xs = ys
  · simp [he, hE.out he]
  · have h3 : s1.toList ≠ s2.toList := by
      intro h
      rw [ByteArray.toList_eq, ByteArray.toList_eq] at h
      apply he
      apply hI.out
      cases s1
      cases s2
      simpa [Array.toList_inj] using h
    simp [he, h3]

def Im.sameP (W H W' H' : Int) (xs ys : List Nat) : Prop := W = W' ∧ H = H' ∧ xs = ys
instance (W H W' H' : Int) (xs ys : List Nat) : Decidable (sameP W H W' H' xs ys) := inferInstanceAs (Decidable (_ ∧ _))

set_option maxHeartbeats 400000 in
theorem isame_any (v v' : Value) (W H W' H' : Int) (xs ys : List Nat) (w : World) (h : Img w v W H xs) (h' : Img w v' W' H' ys) :
    Calls Try.prog 35 #[v, v'] w fun e w' => e = .returned (.bool (decide (sameP W H W' H' xs ys))) ∧ Below w.heap.size w w' := by
  obtain ⟨A, n, c, rfl, hn, hB⟩ := h
  obtain ⟨A', n', c', rfl, hn', hB'⟩ := h'
  have NB := Lib.hid (((Below.refl w.heap.size w).alloc (Nat.le_refl _) (.cells (imL W H A n c).toArray 24)).alloc (by simp) (.cells (imL W' H' A' n' c').toArray 24))
  have hQ := Lib.hid (beq_any A A' n n' c c' xs ys _ ((hB.below NB.out).more NB.out.size) ((hB'.below NB.out).more NB.out.size))
  clear hB hB'
  have hc : W ≠ W' ∨ (W = W' ∧ H ≠ H') ∨ (W = W' ∧ H = H') := by omega
  rcases hc with h1 | ⟨rfl, h2⟩ | ⟨rfl, rfl⟩
  · rw [show decide (sameP W H W' H' xs ys) = false from by simp [sameP, h1]]
    have hb : (W == W') = false := by simp [h1]
    clear h1
    go_enter Try.func35, Try.ntmps35
    go_wp2_with fail
    go_ret
    exact ⟨rfl, NB.out⟩
  · rw [show decide (sameP W H W H' xs ys) = false from by simp [sameP, h2]]
    have hb : (H == H') = false := by simp [h2]
    have hb1 : (W == W) = true := by simp
    clear h2
    go_enter Try.func35, Try.ntmps35
    go_wp2_with fail
    go_ret
    exact ⟨rfl, NB.out⟩
  · rw [show decide (sameP W H W H xs ys) = decide (xs = ys) from by simp [sameP]]
    have hb : (H == H) = true := by simp
    have hb1 : (W == W) = true := by simp
    generalize decide (xs = ys) = r at *
    go_enter Try.func35, Try.ntmps35
    go_wp2_with (go_at_call 56; with_reducible refine hQ.out.mono ?_; rintro e w2 ⟨rfl, rfl⟩)
    go_ret
    exact ⟨rfl, NB.out⟩

theorem Below.drewN {B : Nat} {a w : World} (h : Below B a w) (q : Nat) : Below B a (w.drewN q) := ⟨h.os, h.tape, h.output, h.size, h.block⟩

set_option maxHeartbeats 400000 in
theorem rsame_short (W H W' H' : Int) (A A' : Option Addr) (n n' c c' : Nat) (w : World) (hn : n ≤ 67108864) (hn' : n' ≤ 67108864) (h : W ≠ W' ∨ (W = W' ∧ H ≠ H') ∨ (W = W' ∧ H = H' ∧ n ≠ n')) :
    Calls Try.prog 21 #[img W H A n c, img W' H' A' n' c'] w fun e w' => e = .returned (.bool false) ∧ Below w.heap.size w w' := by
  have NB := Lib.hid (((Below.refl w.heap.size w).alloc (Nat.le_refl _) (.cells (imL W H A n c).toArray 24)).alloc (by simp) (.cells (imL W' H' A' n' c').toArray 24))
  rcases h with h1 | ⟨rfl, h2⟩ | ⟨rfl, rfl, h3⟩
  · have hb : (W != W') = true := by simpa using h1
    clear h1
    go_enter Try.func21, Try.ntmps21
    go_wp2
    go_ret
    exact ⟨rfl, NB.out⟩
  · have hb : (H != H') = true := by simpa using h2
    have hb1 : (W != W) = false := by simp
    clear h2
    go_enter Try.func21, Try.ntmps21
    go_wp2
    go_ret
    exact ⟨rfl, NB.out⟩
  · have hb : (H != H) = false := by simp
    have hb1 : (W != W) = false := by simp
    have hb2 : ((n : Int) != (n' : Int)) = true := by simp; omega
    clear h3
    go_enter Try.func21, Try.ntmps21
    go_wp2
    go_ret
    exact ⟨rfl, NB.out⟩

set_option maxHeartbeats 1000000 in
theorem rsame_long (W H : Int) (A A' : Option Addr) (n c c' : Nat) (xs ys : List Nat) (w : World) (hn : n ≤ 67108864) (h : Bs w w.heap.size A n xs) (h' : Bs w w.heap.size A' n ys) :
    Calls Try.prog 21 #[img W H A n c, img W H A' n c'] w fun e w' => e = .returned (.bool (decide (xs = ys))) ∧ Below w.heap.size w w' := by
  have hb0 : (H != H) = false := by simp
  have hb1 : (W != W) = false := by simp
  have hb2 : ((n : Int) != (n : Int)) = false := by simp
  obtain ⟨X, hX⟩ : ∃ X, X = (w.alloc (.cells (imL W H A n c).toArray 24)).alloc (.cells (imL W H A' n c').toArray 24) := ⟨_, rfl⟩
  have NB := Lib.hid (show Below w.heap.size w X from hX ▸ (((Below.refl w.heap.size w).alloc (Nat.le_refl _) (.cells (imL W H A n c).toArray 24)).alloc (by simp) (.cells (imL W H A' n c').toArray 24)))
  have N0 := Lib.hid (show Row X w.heap.size 24 (imL W H A n c) from hX ▸ ((Row.new w 24 (imL W H A n c)).old _))
  have N1 := Lib.hid (show Row X (w.heap.size + 1) 24 (imL W H A' n c') from by have := Row.new (w.alloc (.cells (imL W H A n c).toArray 24)) 24 (imL W H A' n c'); rw [World.size_alloc] at this; exact hX ▸ this)
  have HH := Lib.hid ((h.below NB.out).more NB.out.size)
  have HH' := Lib.hid ((h'.below NB.out).more NB.out.size)
  clear h h'
  go_enter Try.func21, Try.ntmps21
  go_wp2
  go_loopw [5] (fun i wr => ∃ k q : Nat, k ≤ n ∧ i = .int .i64 k ∧ wr = X.drewN q ∧ Hid (xs.take k = ys.take k)) (fun i _ => n - (intOf i).toNat)
  case atStart => exact ⟨0, 0, Nat.zero_le _, rfl, hX.symm, by simp [Hid]⟩
  case round =>
    clear hX
    obtain ⟨k, q, hk, rfl, rfl, htk⟩ := hrel
    have c0 : (X.drewN q).cell? ⟨w.heap.size, 2, none⟩ = some (.slice A n c) := N0.out.cell 2 _ rfl
    have c1 : (X.drewN q).cell? ⟨w.heap.size + 1, 2, none⟩ = some (.slice A' n c') := N1.out.cell 2 _ rfl
    have d0 : X.cell? ⟨w.heap.size, 2, none⟩ = some (.slice A n c) := N0.out.cell 2 _ rfl
    have d1 : X.cell? ⟨w.heap.size + 1, 2, none⟩ = some (.slice A' n c') := N1.out.cell 2 _ rfl
    by_cases hlt : k < n
    · obtain ⟨b, off, rfl, hb1, hc1⟩ := HH.out.2.2 (by omega)
      obtain ⟨b', off', rfl, hb2, hc2⟩ := HH'.out.2.2 (by omega)
      have hx := hc1 k hlt
      have hy := hc2 k hlt
      clear hc1 hc2
      have hts := Lib.hid (Pl.take_step (xs := xs) (ys := ys) (k := k) (by rw [HH.out.1]; exact hlt) (by rw [HH'.out.1]; exact hlt) htk.out)
      have hns := Lib.hid (show xs.getD k 0 ≠ ys.getD k 0 → xs ≠ ys from fun h e => h (by rw [e]))
      generalize xs.getD k 0 = x at *
      generalize ys.getD k 0 = y at *
      by_cases he : x = y
      · have hne : ((x : Int) != (y : Int)) = false := by simp [he]
        have hT := Lib.hid (hts.out he)
        clear he hns hts
        go_wp2
        go_quiet (fail)
        go_wp2
        go_roundw
        case rel => exact ⟨k + 1, _, by omega, by go_num, rfl, hT⟩
        case measure => simp [intOf]; omega
      · have hne : ((x : Int) != (y : Int)) = true := by simp; omega
        have hT := Lib.hid (hns.out he)
        clear he hns hts
        go_wp2
        go_quiet (fail)
        go_wp2
        go_ret
        exact ⟨ret_bool (by simp [hT.out]), Below.drewN (Below.drewN NB.out _) _⟩
    · obtain rfl : k = n := by omega
      go_wp2
      go_ret
      refine ⟨ret_bool ?_, Below.drewN NB.out _⟩
      have := htk.out
      rw [List.take_of_length_le (by rw [HH.out.1]; omega), List.take_of_length_le (by rw [HH'.out.1]; omega)] at this
      simp [this]

theorem rsame_any (v v' : Value) (W H W' H' : Int) (xs ys : List Nat) (w : World) (h : Img w v W H xs) (h' : Img w v' W' H' ys) :
    Calls Try.prog 21 #[v, v'] w fun e w' => e = .returned (.bool (decide (sameP W H W' H' xs ys))) ∧ Below w.heap.size w w' := by
  obtain ⟨A, n, c, rfl, hn, hB⟩ := h
  obtain ⟨A', n', c', rfl, hn', hB'⟩ := h'
  by_cases hs : W = W' ∧ H = H' ∧ n = n'
  · obtain ⟨rfl, rfl, rfl⟩ := hs
    rw [show decide (sameP W H W H xs ys) = decide (xs = ys) from by simp [sameP]]
    exact rsame_long W H A A' n c c' xs ys w hn hB hB'
  · rw [show decide (sameP W H W' H' xs ys) = false from by
      apply decide_eq_false
      rintro ⟨e1, e2, e3⟩
      exact hs ⟨e1, e2, by rw [← hB.1, ← hB'.1, e3]⟩]
    exact rsame_short W H W' H' A A' n n' c c' w hn hn' (by omega)

theorem lsame_any (v v' : Value) (W H W' H' : Int) (xs ys : List Nat) (w : World) (h : Img w v W H xs) (h' : Img w v' W' H' ys) :
    Calls Try.prog 14 #[v, v'] w fun e w' => e = .returned (.bool (decide (sameP W H W' H' xs ys))) ∧ Below w.heap.size w w' := by
  obtain ⟨A, n, c, rfl, hn, hB⟩ := h
  obtain ⟨A', n', c', rfl, hn', hB'⟩ := h'
  have NB := Lib.hid (((Below.refl w.heap.size w).alloc (Nat.le_refl _) (.cells (imL W H A n c).toArray 24)).alloc (by simp) (.cells (imL W' H' A' n' c').toArray 24))
  have hQ := Lib.hid (rsame_any (img W H A n c) (img W' H' A' n' c') W H W' H' xs ys _ ⟨A, n, c, rfl, hn, (hB.below NB.out).more NB.out.size⟩ ⟨A', n', c', rfl, hn', (hB'.below NB.out).more NB.out.size⟩)
  clear hB hB'
  generalize decide (sameP W H W' H' xs ys) = r at *
  go_enter Try.func14, Try.ntmps14
  go_wp2_with (go_at_call 21; with_reducible refine hQ.out.mono ?_; rintro e w2 ⟨rfl, hb⟩)
  go_ret
  exact ⟨rfl, NB.out.trans (hb.mono (by simp; omega))⟩
end Go.Proofs.Ytbpdaijmclcbdaa
