/- ETC2 blocks, the document's: Lay. -/
import Derived.Test.YtgcijioiicmjiaaDoorE2RlayP
import Derived.Test.YtgcijioiicmjiaaDoorE2Rpt
import Derived.Test.YtgcijioiicmjiaaDoorE2Any
set_option linter.all false
namespace Go.Proofs.YtgcijioiicmjiaaDoor
open Go.RowKit
open Bi Lv Eo Et

theorem rput_fd (L : Nat → Int) (hL : ∀ k, k < 9 → 0 ≤ L k ∧ L k < 128) (s : Nat) (hs : s < 9) (A : Option Addr) (c gl ml : Nat) (u : World) (hc : 8 ≤ c ∧ c ≤ 9223372036854775807) (hu : Bs u u.heap.size A 8 (byt (hG L s))) (hg : cellsF gl (i64s (ints (fd s))) u) :
    Calls Tryd.prog 38 #[.slice A 8 c, .slice (some ⟨gl, 0, none⟩) (fd s).length ml, .int .i64 (L s)] u (fun e w' => ∃ A' c', e = .returned (.slice A' 8 c') ∧ (8 ≤ c' ∧ c' ≤ 9223372036854775807) ∧ Bs w' w'.heap.size A' 8 (byt (hG L (s + 1))) ∧ Below u.heap.size u w') := by
  have hl : (fd s).length ≤ 16 ∧ ∀ i ∈ fd s, i < 64 := by
    have k : ∀ s, s < 9 → (fd s).length ≤ 16 ∧ ∀ i ∈ fd s, i < 64 := by decide
    exact k s hs
  have b := hL s hs
  have k := put11 A c (hG L s) gl (fd s).length ml (fd s) (L s).toNat u hc hu hg rfl hl.1 hl.2 (by omega)
  rw [hG_next L s hs, Int.toNat_of_nonneg b.1] at k
  exact k
theorem three_info : (Tryd.prog.info? 34).map (fun i => (i.size, i.zero.map (·.cells))) = some (3, some #[.int .i64 0, .int .i64 0, .int .i64 0]) := by kernel_rfl
set_option maxRecDepth 100000 in
theorem fill33 (a0 a1 a2 b0 b1 b2 c0 c1 c2 : Int) : Instr.fill (fun i => some (i * 3, 3)) ((Array.range (3 * 3)).map (#[Value.int .i64 0, Value.int .i64 0, Value.int .i64 0][· % (#[Value.int .i64 0, Value.int .i64 0, Value.int .i64 0] : Array Value).size]!)) [(0, arr [a0, a1, a2]), (1, arr [b0, b1, b2]), (2, arr [c0, c1, c2])] = some (i64s [a0, a1, a2, b0, b1, b2, c0, c1, c2]).toArray := by kernel_rfl
namespace Et
theorem wd_row : ∀ i, i < 3 → wdN (plM i 0) 3 = 6 ∧ wdN (plM i 1) 3 = 7 ∧ wdN (plM i 2) 3 = 6 := by decide
theorem okC0 (zs : List Int) (i : Nat) (hi : i < 3) : okC zs i 0 ↔ (0 ≤ zs.getD (i * 3 + 0) 0 ∧ zs.getD (i * 3 + 0) 0 ≤ 63) := by unfold okC; rw [(wd_row i hi).1]; omega
theorem okC1 (zs : List Int) (i : Nat) (hi : i < 3) : okC zs i 1 ↔ (0 ≤ zs.getD (i * 3 + 1) 0 ∧ zs.getD (i * 3 + 1) 0 ≤ 127) := by unfold okC; rw [(wd_row i hi).2.1]; omega
theorem okC2 (zs : List Int) (i : Nat) (hi : i < 3) : okC zs i 2 ↔ (0 ≤ zs.getD (i * 3 + 2) 0 ∧ zs.getD (i * 3 + 2) 0 ≤ 63) := by unfold okC; rw [(wd_row i hi).2.2]; omega
end Et
theorem in_yes (n lo hi : Int) (h : lo ≤ n ∧ n ≤ hi) (u : World) : Calls Tryd.prog 37 #[.int .i64 n, .int .i64 lo, .int .i64 hi] u fun e w' => e = .returned (.bool true) ∧ u = w' := by
  have k := In_any n lo hi u
  rw [decide_eq_true h] at k
  exact k
theorem in_no (n lo hi : Int) (h : ¬ (lo ≤ n ∧ n ≤ hi)) (u : World) : Calls Tryd.prog 37 #[.int .i64 n, .int .i64 lo, .int .i64 hi] u fun e w' => e = .returned (.bool false) ∧ u = w' := by
  have k := In_any n lo hi u
  rw [decide_eq_false h] at k
  exact k
set_option maxHeartbeats 16000000 in
set_option maxRecDepth 100000 in
theorem rlay_ok (xo xh xv : List Int) (ho : xo.length = 3) (hh : xh.length = 3) (hv : xv.length = 3) (hok : okZ (zsL xo xh xv)) (w : World) :
    Calls Tryd.prog 15 #[arr xo, arr xh, arr xv] w (Laid w (lB (lL (zsL xo xh xv))) 0) := by
  have E := Lib.hid (Kn.start w)
  have hz := hok
  obtain ⟨a0, a1, a2, rfl⟩ := list3 xo ho
  obtain ⟨b0, b1, b2, rfl⟩ := list3 xh hh
  obtain ⟨c0, c1, c2, rfl⟩ := list3 xv hv
  rw [show zsL [a0, a1, a2] [b0, b1, b2] [c0, c1, c2] = [a0, a1, a2, b0, b1, b2, c0, c1, c2] from rfl] at hok ⊢
  have hfi := Lib.hid (fill33 a0 a1 a2 b0 b1 b2 c0 c1 c2)
  have hzl := Lib.hid (show ([a0, a1, a2, b0, b1, b2, c0, c1, c2] : List Int).length = 9 from rfl)
  have hL := okL_of _ hok
  have hLb : ∀ k, k < 9 → 0 ≤ (lL [a0, a1, a2, b0, b1, b2, c0, c1, c2]) k ∧ (lL [a0, a1, a2, b0, b1, b2, c0, c1, c2]) k < 128 := fun k hk => okL_bd hL k hk
  have HO := Lib.hid (fun i (hi : i < 3) => show (0 ≤ ([a0, a1, a2, b0, b1, b2, c0, c1, c2] : List Int).getD (i * 3 + 0) 0 ∧ ([a0, a1, a2, b0, b1, b2, c0, c1, c2] : List Int).getD (i * 3 + 0) 0 ≤ 63) ∧ (0 ≤ ([a0, a1, a2, b0, b1, b2, c0, c1, c2] : List Int).getD (i * 3 + 1) 0 ∧ ([a0, a1, a2, b0, b1, b2, c0, c1, c2] : List Int).getD (i * 3 + 1) 0 ≤ 127) ∧ (0 ≤ ([a0, a1, a2, b0, b1, b2, c0, c1, c2] : List Int).getD (i * 3 + 2) 0 ∧ ([a0, a1, a2, b0, b1, b2, c0, c1, c2] : List Int).getD (i * 3 + 2) 0 ≤ 63) from ⟨(okC0 _ i hi).1 (hok i hi 0 (by omega)), (okC1 _ i hi).1 (hok i hi 1 (by omega)), (okC2 _ i hi).1 (hok i hi 2 (by omega))⟩)
  have P0 := Lib.hid (fun A c gl ml u (hc : 8 ≤ c ∧ c ≤ 9223372036854775807) (hu : Bs u u.heap.size A 8 (byt (hG (lL [a0, a1, a2, b0, b1, b2, c0, c1, c2]) 0))) (hg : cellsF gl (i64s (ints (fd 0))) u) => show Calls Tryd.prog 38 #[.slice A 8 c, .slice (some ⟨gl, 0, none⟩) 6 ml, .int .i64 a0] u (fun e w' => ∃ A' c', e = .returned (.slice A' 8 c') ∧ (8 ≤ c' ∧ c' ≤ 9223372036854775807) ∧ Bs w' w'.heap.size A' 8 (byt (hG (lL [a0, a1, a2, b0, b1, b2, c0, c1, c2]) 1)) ∧ Below u.heap.size u w') from rput_fd (lL [a0, a1, a2, b0, b1, b2, c0, c1, c2]) hLb 0 (by omega) A c gl ml u hc hu hg)
  have S0 := Lib.hid (fun u => show Calls Tryd.prog 39 #[.int .i64 1, .int .i64 6] u (fun e w' => ∃ g c, e = .returned (.slice (some ⟨g, 0, none⟩) 6 c) ∧ cellsF g (i64s (ints (fd 0))) w' ∧ u.heap.size ≤ g ∧ Below u.heap.size u w') from span11 1 6 6 (by omega) (by omega) (by omega) u)
  have P1 := Lib.hid (fun A c gl ml u (hc : 8 ≤ c ∧ c ≤ 9223372036854775807) (hu : Bs u u.heap.size A 8 (byt (hG (lL [a0, a1, a2, b0, b1, b2, c0, c1, c2]) 1))) (hg : cellsF gl (i64s [7, 9, 10, 11, 12, 13, 14]) u) => show Calls Tryd.prog 38 #[.slice A 8 c, .slice (some ⟨gl, 0, none⟩) 7 ml, .int .i64 a1] u (fun e w' => ∃ A' c', e = .returned (.slice A' 8 c') ∧ (8 ≤ c' ∧ c' ≤ 9223372036854775807) ∧ Bs w' w'.heap.size A' 8 (byt (hG (lL [a0, a1, a2, b0, b1, b2, c0, c1, c2]) 2)) ∧ Below u.heap.size u w') from rput_fd (lL [a0, a1, a2, b0, b1, b2, c0, c1, c2]) hLb 1 (by omega) A c gl ml u hc hu hg)
  have P2 := Lib.hid (fun A c gl ml u (hc : 8 ≤ c ∧ c ≤ 9223372036854775807) (hu : Bs u u.heap.size A 8 (byt (hG (lL [a0, a1, a2, b0, b1, b2, c0, c1, c2]) 2))) (hg : cellsF gl (i64s [15, 19, 20, 22, 23, 24]) u) => show Calls Tryd.prog 38 #[.slice A 8 c, .slice (some ⟨gl, 0, none⟩) 6 ml, .int .i64 a2] u (fun e w' => ∃ A' c', e = .returned (.slice A' 8 c') ∧ (8 ≤ c' ∧ c' ≤ 9223372036854775807) ∧ Bs w' w'.heap.size A' 8 (byt (hG (lL [a0, a1, a2, b0, b1, b2, c0, c1, c2]) 3)) ∧ Below u.heap.size u w') from rput_fd (lL [a0, a1, a2, b0, b1, b2, c0, c1, c2]) hLb 2 (by omega) A c gl ml u hc hu hg)
  have P3 := Lib.hid (fun A c gl ml u (hc : 8 ≤ c ∧ c ≤ 9223372036854775807) (hu : Bs u u.heap.size A 8 (byt (hG (lL [a0, a1, a2, b0, b1, b2, c0, c1, c2]) 3))) (hg : cellsF gl (i64s [25, 26, 27, 28, 29, 31]) u) => show Calls Tryd.prog 38 #[.slice A 8 c, .slice (some ⟨gl, 0, none⟩) 6 ml, .int .i64 b0] u (fun e w' => ∃ A' c', e = .returned (.slice A' 8 c') ∧ (8 ≤ c' ∧ c' ≤ 9223372036854775807) ∧ Bs w' w'.heap.size A' 8 (byt (hG (lL [a0, a1, a2, b0, b1, b2, c0, c1, c2]) 4)) ∧ Below u.heap.size u w') from rput_fd (lL [a0, a1, a2, b0, b1, b2, c0, c1, c2]) hLb 3 (by omega) A c gl ml u hc hu hg)
  have P4 := Lib.hid (fun A c gl ml u (hc : 8 ≤ c ∧ c ≤ 9223372036854775807) (hu : Bs u u.heap.size A 8 (byt (hG (lL [a0, a1, a2, b0, b1, b2, c0, c1, c2]) 4))) (hg : cellsF gl (i64s (ints (fd 4))) u) => show Calls Tryd.prog 38 #[.slice A 8 c, .slice (some ⟨gl, 0, none⟩) 7 ml, .int .i64 b1] u (fun e w' => ∃ A' c', e = .returned (.slice A' 8 c') ∧ (8 ≤ c' ∧ c' ≤ 9223372036854775807) ∧ Bs w' w'.heap.size A' 8 (byt (hG (lL [a0, a1, a2, b0, b1, b2, c0, c1, c2]) 5)) ∧ Below u.heap.size u w') from rput_fd (lL [a0, a1, a2, b0, b1, b2, c0, c1, c2]) hLb 4 (by omega) A c gl ml u hc hu hg)
  have S4 := Lib.hid (fun u => show Calls Tryd.prog 39 #[.int .i64 32, .int .i64 38] u (fun e w' => ∃ g c, e = .returned (.slice (some ⟨g, 0, none⟩) 7 c) ∧ cellsF g (i64s (ints (fd 4))) w' ∧ u.heap.size ≤ g ∧ Below u.heap.size u w') from span11 32 38 7 (by omega) (by omega) (by omega) u)
  have P5 := Lib.hid (fun A c gl ml u (hc : 8 ≤ c ∧ c ≤ 9223372036854775807) (hu : Bs u u.heap.size A 8 (byt (hG (lL [a0, a1, a2, b0, b1, b2, c0, c1, c2]) 5))) (hg : cellsF gl (i64s (ints (fd 5))) u) => show Calls Tryd.prog 38 #[.slice A 8 c, .slice (some ⟨gl, 0, none⟩) 6 ml, .int .i64 b2] u (fun e w' => ∃ A' c', e = .returned (.slice A' 8 c') ∧ (8 ≤ c' ∧ c' ≤ 9223372036854775807) ∧ Bs w' w'.heap.size A' 8 (byt (hG (lL [a0, a1, a2, b0, b1, b2, c0, c1, c2]) 6)) ∧ Below u.heap.size u w') from rput_fd (lL [a0, a1, a2, b0, b1, b2, c0, c1, c2]) hLb 5 (by omega) A c gl ml u hc hu hg)
  have S5 := Lib.hid (fun u => show Calls Tryd.prog 39 #[.int .i64 39, .int .i64 44] u (fun e w' => ∃ g c, e = .returned (.slice (some ⟨g, 0, none⟩) 6 c) ∧ cellsF g (i64s (ints (fd 5))) w' ∧ u.heap.size ≤ g ∧ Below u.heap.size u w') from span11 39 44 6 (by omega) (by omega) (by omega) u)
  have P6 := Lib.hid (fun A c gl ml u (hc : 8 ≤ c ∧ c ≤ 9223372036854775807) (hu : Bs u u.heap.size A 8 (byt (hG (lL [a0, a1, a2, b0, b1, b2, c0, c1, c2]) 6))) (hg : cellsF gl (i64s (ints (fd 6))) u) => show Calls Tryd.prog 38 #[.slice A 8 c, .slice (some ⟨gl, 0, none⟩) 6 ml, .int .i64 c0] u (fun e w' => ∃ A' c', e = .returned (.slice A' 8 c') ∧ (8 ≤ c' ∧ c' ≤ 9223372036854775807) ∧ Bs w' w'.heap.size A' 8 (byt (hG (lL [a0, a1, a2, b0, b1, b2, c0, c1, c2]) 7)) ∧ Below u.heap.size u w') from rput_fd (lL [a0, a1, a2, b0, b1, b2, c0, c1, c2]) hLb 6 (by omega) A c gl ml u hc hu hg)
  have S6 := Lib.hid (fun u => show Calls Tryd.prog 39 #[.int .i64 45, .int .i64 50] u (fun e w' => ∃ g c, e = .returned (.slice (some ⟨g, 0, none⟩) 6 c) ∧ cellsF g (i64s (ints (fd 6))) w' ∧ u.heap.size ≤ g ∧ Below u.heap.size u w') from span11 45 50 6 (by omega) (by omega) (by omega) u)
  have P7 := Lib.hid (fun A c gl ml u (hc : 8 ≤ c ∧ c ≤ 9223372036854775807) (hu : Bs u u.heap.size A 8 (byt (hG (lL [a0, a1, a2, b0, b1, b2, c0, c1, c2]) 7))) (hg : cellsF gl (i64s (ints (fd 7))) u) => show Calls Tryd.prog 38 #[.slice A 8 c, .slice (some ⟨gl, 0, none⟩) 7 ml, .int .i64 c1] u (fun e w' => ∃ A' c', e = .returned (.slice A' 8 c') ∧ (8 ≤ c' ∧ c' ≤ 9223372036854775807) ∧ Bs w' w'.heap.size A' 8 (byt (hG (lL [a0, a1, a2, b0, b1, b2, c0, c1, c2]) 8)) ∧ Below u.heap.size u w') from rput_fd (lL [a0, a1, a2, b0, b1, b2, c0, c1, c2]) hLb 7 (by omega) A c gl ml u hc hu hg)
  have S7 := Lib.hid (fun u => show Calls Tryd.prog 39 #[.int .i64 51, .int .i64 57] u (fun e w' => ∃ g c, e = .returned (.slice (some ⟨g, 0, none⟩) 7 c) ∧ cellsF g (i64s (ints (fd 7))) w' ∧ u.heap.size ≤ g ∧ Below u.heap.size u w') from span11 51 57 7 (by omega) (by omega) (by omega) u)
  have P8 := Lib.hid (fun A c gl ml u (hc : 8 ≤ c ∧ c ≤ 9223372036854775807) (hu : Bs u u.heap.size A 8 (byt (hG (lL [a0, a1, a2, b0, b1, b2, c0, c1, c2]) 8))) (hg : cellsF gl (i64s (ints (fd 8))) u) => show Calls Tryd.prog 38 #[.slice A 8 c, .slice (some ⟨gl, 0, none⟩) 6 ml, .int .i64 c2] u (fun e w' => ∃ A' c', e = .returned (.slice A' 8 c') ∧ (8 ≤ c' ∧ c' ≤ 9223372036854775807) ∧ Bs w' w'.heap.size A' 8 (byt (hG (lL [a0, a1, a2, b0, b1, b2, c0, c1, c2]) 9)) ∧ Below u.heap.size u w') from rput_fd (lL [a0, a1, a2, b0, b1, b2, c0, c1, c2]) hLb 8 (by omega) A c gl ml u hc hu hg)
  have S8 := Lib.hid (fun u => show Calls Tryd.prog 39 #[.int .i64 58, .int .i64 63] u (fun e w' => ∃ g c, e = .returned (.slice (some ⟨g, 0, none⟩) 6 c) ∧ cellsF g (i64s (ints (fd 8))) w' ∧ u.heap.size ≤ g ∧ Below u.heap.size u w') from span11 58 63 6 (by omega) (by omega) (by omega) u)
  have P30 := Lib.hid (fun A c gl ml u (hc : 8 ≤ c ∧ c ≤ 9223372036854775807) (hu : Bs u u.heap.size A 8 (byt (hG (lL [a0, a1, a2, b0, b1, b2, c0, c1, c2]) 9))) (hg : cellsF gl (i64s [30]) u) => show Calls Tryd.prog 38 #[.slice A 8 c, .slice (some ⟨gl, 0, none⟩) 1 ml, .int .i64 1] u (fun e w' => ∃ A' c', e = .returned (.slice A' 8 c') ∧ (8 ≤ c' ∧ c' ≤ 9223372036854775807) ∧ Bs w' w'.heap.size A' 8 (byt (kG (lL [a0, a1, a2, b0, b1, b2, c0, c1, c2]) 0)) ∧ Below u.heap.size u w') from by
    have k := put11 A c (hG (lL [a0, a1, a2, b0, b1, b2, c0, c1, c2]) 9) gl 1 ml [30] 1 u hc hu hg rfl (by omega) (by decide) (by omega)
    rw [hG_diff, kG_zero] at k
    exact k)
  have PK := Lib.hid (fun (j : Nat) (hj : j < 2) (hw : low (lL [a0, a1, a2, b0, b1, b2, c0, c1, c2]) (8 * j) = true) A c gl ml u (hc : 8 ≤ c ∧ c ≤ 9223372036854775807) (hu : Bs u u.heap.size A 8 (byt (kG (lL [a0, a1, a2, b0, b1, b2, c0, c1, c2]) j))) (hg : cellsF gl (i64s [((8 * j : Nat) : Int)]) u) => show Calls Tryd.prog 38 #[.slice A 8 c, .slice (some ⟨gl, 0, none⟩) 1 ml, .int .i64 1] u (fun e w' => ∃ A' c', e = .returned (.slice A' 8 c') ∧ (8 ≤ c' ∧ c' ≤ 9223372036854775807) ∧ Bs w' w'.heap.size A' 8 (byt (kG (lL [a0, a1, a2, b0, b1, b2, c0, c1, c2]) (j + 1))) ∧ Below u.heap.size u w') from by
    have k := put11 A c (kG (lL [a0, a1, a2, b0, b1, b2, c0, c1, c2]) j) gl 1 ml [8 * j] 1 u hc hu hg rfl (by omega) (by intro i hi; simp at hi; omega) (by omega)
    rw [kG_put _ j hj hw] at k
    exact k)
  have PA := Lib.hid (fun (hw : big (lL [a0, a1, a2, b0, b1, b2, c0, c1, c2]) = true) A c gl ml u (hc : 8 ≤ c ∧ c ≤ 9223372036854775807) (hu : Bs u u.heap.size A 8 (byt (kG (lL [a0, a1, a2, b0, b1, b2, c0, c1, c2]) 2))) (hg : cellsF gl (i64s [16, 17, 18]) u) => show Calls Tryd.prog 38 #[.slice A 8 c, .slice (some ⟨gl, 0, none⟩) 3 ml, .int .i64 7] u (fun e w' => ∃ A' c', e = .returned (.slice A' 8 c') ∧ (8 ≤ c' ∧ c' ≤ 9223372036854775807) ∧ Bs w' w'.heap.size A' 8 (lB (lL [a0, a1, a2, b0, b1, b2, c0, c1, c2])) ∧ Below u.heap.size u w') from by
    have k := put11 A c (kG (lL [a0, a1, a2, b0, b1, b2, c0, c1, c2]) 2) gl 3 ml [16, 17, 18] 7 u hc hu hg rfl (by omega) (by decide) (by omega)
    rw [kG_above _ hw] at k
    exact k)
  have PB := Lib.hid (fun (hw : big (lL [a0, a1, a2, b0, b1, b2, c0, c1, c2]) = false) A c gl ml u (hc : 8 ≤ c ∧ c ≤ 9223372036854775807) (hu : Bs u u.heap.size A 8 (byt (kG (lL [a0, a1, a2, b0, b1, b2, c0, c1, c2]) 2))) (hg : cellsF gl (i64s [21]) u) => show Calls Tryd.prog 38 #[.slice A 8 c, .slice (some ⟨gl, 0, none⟩) 1 ml, .int .i64 1] u (fun e w' => ∃ A' c', e = .returned (.slice A' 8 c') ∧ (8 ≤ c' ∧ c' ≤ 9223372036854775807) ∧ Bs w' w'.heap.size A' 8 (lB (lL [a0, a1, a2, b0, b1, b2, c0, c1, c2])) ∧ Below u.heap.size u w') from by
    have k := put11 A c (kG (lL [a0, a1, a2, b0, b1, b2, c0, c1, c2]) 2) gl 1 ml [21] 1 u hc hu hg rfl (by omega) (by decide) (by omega)
    rw [kG_below _ hw] at k
    exact k)
  have KP := Lib.hid (fun (j : Nat) A c u hu => rparts_ok A c (byt (kG (lL [a0, a1, a2, b0, b1, b2, c0, c1, c2]) j)) u hu)
  have KS := Lib.hid (fun j (hj : j < 2) => kG_sum (lL [a0, a1, a2, b0, b1, b2, c0, c1, c2]) j hj)
  have KK := Lib.hid (fun j (hj : j < 2) (hw : low (lL [a0, a1, a2, b0, b1, b2, c0, c1, c2]) (8 * j) = false) => kG_keep (lL [a0, a1, a2, b0, b1, b2, c0, c1, c2]) j hj hw)
  have hR1 := Lib.hid (fun A c u hu => show Calls Tryd.prog 41 #[.slice A 8 c, .int .i64 19, .int .i64 20] u (fun e w' => e = .returned (.int .i64 (n2 (lb (lL [a0, a1, a2, b0, b1, b2, c0, c1, c2]) 19) (lb (lL [a0, a1, a2, b0, b1, b2, c0, c1, c2]) 20))) ∧ Below u.heap.size u w') from by
    have k := run11 A c (byt (kG (lL [a0, a1, a2, b0, b1, b2, c0, c1, c2]) 2)) 19 20 2 u hu (by omega) (by omega) (by omega)
    rw [(kG_run (lL [a0, a1, a2, b0, b1, b2, c0, c1, c2])).1] at k
    exact k)
  have hR2 := Lib.hid (fun A c u hu => show Calls Tryd.prog 41 #[.slice A 8 c, .int .i64 22, .int .i64 23] u (fun e w' => e = .returned (.int .i64 (n2 (lb (lL [a0, a1, a2, b0, b1, b2, c0, c1, c2]) 22) (lb (lL [a0, a1, a2, b0, b1, b2, c0, c1, c2]) 23))) ∧ Below u.heap.size u w') from by
    have k := run11 A c (byt (kG (lL [a0, a1, a2, b0, b1, b2, c0, c1, c2]) 2)) 22 23 2 u hu (by omega) (by omega) (by omega)
    rw [(kG_run (lL [a0, a1, a2, b0, b1, b2, c0, c1, c2])).2] at k
    exact k)
  have hbg : big (lL [a0, a1, a2, b0, b1, b2, c0, c1, c2]) = decide (4 ≤ n2 (lb (lL [a0, a1, a2, b0, b1, b2, c0, c1, c2]) 19) (lb (lL [a0, a1, a2, b0, b1, b2, c0, c1, c2]) 20) + n2 (lb (lL [a0, a1, a2, b0, b1, b2, c0, c1, c2]) 22) (lb (lL [a0, a1, a2, b0, b1, b2, c0, c1, c2]) 23)) := rfl
  have hna := n2_bd (lb (lL [a0, a1, a2, b0, b1, b2, c0, c1, c2]) 19) (lb (lL [a0, a1, a2, b0, b1, b2, c0, c1, c2]) 20)
  have hnb := n2_bd (lb (lL [a0, a1, a2, b0, b1, b2, c0, c1, c2]) 22) (lb (lL [a0, a1, a2, b0, b1, b2, c0, c1, c2]) 23)
  have hG0 := Lib.hid (hG_zero (lL [a0, a1, a2, b0, b1, b2, c0, c1, c2]))
  have hgl := Lib.hid (fun s => by_length (hG (lL [a0, a1, a2, b0, b1, b2, c0, c1, c2]) s))
  have hkl := Lib.hid (fun j => by_length (kG (lL [a0, a1, a2, b0, b1, b2, c0, c1, c2]) j))
  have hbl := Lib.hid (lB_length (lL [a0, a1, a2, b0, b1, b2, c0, c1, c2]))
  clear hok hz hL hLb ho hh hv
  generalize lB (lL [a0, a1, a2, b0, b1, b2, c0, c1, c2]) = BB at *
  generalize big (lL [a0, a1, a2, b0, b1, b2, c0, c1, c2]) = bg at *
  generalize n2 (lb (lL [a0, a1, a2, b0, b1, b2, c0, c1, c2]) 19) (lb (lL [a0, a1, a2, b0, b1, b2, c0, c1, c2]) 20) = na at *
  generalize n2 (lb (lL [a0, a1, a2, b0, b1, b2, c0, c1, c2]) 22) (lb (lL [a0, a1, a2, b0, b1, b2, c0, c1, c2]) 23) = nb at *
  obtain ⟨HB, hHB⟩ : ∃ f : Nat → List Nat, ∀ s, byt (hG (lL [a0, a1, a2, b0, b1, b2, c0, c1, c2]) s) = f s := ⟨fun s => byt (hG (lL [a0, a1, a2, b0, b1, b2, c0, c1, c2]) s), fun _ => rfl⟩
  obtain ⟨KB, hKB⟩ : ∃ f : Nat → List Nat, ∀ s, byt (kG (lL [a0, a1, a2, b0, b1, b2, c0, c1, c2]) s) = f s := ⟨fun s => byt (kG (lL [a0, a1, a2, b0, b1, b2, c0, c1, c2]) s), fun _ => rfl⟩
  obtain ⟨LO, hLO⟩ : ∃ f : Nat → Bool, ∀ j, low (lL [a0, a1, a2, b0, b1, b2, c0, c1, c2]) (8 * j) = f j := ⟨fun j => low (lL [a0, a1, a2, b0, b1, b2, c0, c1, c2]) (8 * j), fun _ => rfl⟩
  simp only [hHB, hKB, hLO] at P0 P1 P2 P3 P4 P5 P6 P7 P8 P30 PK PA PB KP KS KK hR1 hR2 hG0 hgl hkl
  clear hHB hKB hLO
  generalize i64s (ints (fd 0)) = F0 at *
  generalize i64s (ints (fd 4)) = F4 at *
  generalize i64s (ints (fd 5)) = F5 at *
  generalize i64s (ints (fd 6)) = F6 at *
  generalize i64s (ints (fd 7)) = F7 at *
  generalize i64s (ints (fd 8)) = F8 at *
  have hsz_int : (Tryd.prog.info? 3).map (·.size) = some 1 := by kernel_rfl
  have hz_int : ((Tryd.prog.info? 3).bind (·.zero)).isSome = true := by kernel_rfl
  replace hna := Lib.hid hna
  replace hnb := Lib.hid hnb
  replace hbg := Lib.hid hbg
  obtain ⟨ZS, hZS⟩ : ∃ z, ([a0, a1, a2, b0, b1, b2, c0, c1, c2] : List Int) = z := ⟨_, rfl⟩
  rw [hZS] at hfi hzl HO
  clear hZS
  go_enter Tryd.func15, Tryd.ntmps15
  go_wp2_with (first
    | ((with_reducible refine kn_buildm E.out rfl rfl (i64s ZS) [(0, arr [a0, a1, a2]), (1, arr [b0, b1, b2]), (2, arr [c0, c1, c2])] Tryd.underlying85 three_info ?h1 ?h2 hfi.out ?h3 ?_); (case h1 => omega); (case h2 => omega); (case h3 => simp only [List.map_toArray, List.map_cons, List.map_nil]; rfl); clear E; intro gz u E0 hg0; have E := Lib.hid E0; clear E0 hg0)
    | ((with_reducible refine kn_load E.out rfl rfl rfl rfl ?_)) | ((with_reducible refine kn_load_if E.out rfl rfl rfl rfl ?_)) | ((with_reducible refine kn_loads E.out rfl rfl rfl ?_ ?_); (focus (first | rfl | (simp only [i64s_length, u8s_length]; first | rfl | assumption | omega)))) | ((with_reducible refine kn_loads_if E.out rfl rfl rfl ?_ ?_); (focus (first | rfl | (simp only [i64s_length, u8s_length]; first | rfl | assumption | omega)))) | ((with_reducible refine kn_stores E.out rfl rfl rfl rfl rfl ?_ ?_ ?_); (focus (first | exact ⟨rfl, rfl⟩ | (simp only [i64s_length, u8s_length]; refine ⟨?_, ?_⟩ <;> first | rfl | assumption | omega))); (focus (first | exact i64s_one _ | exact u8s_one _ | simp [Value.oneCell'])); clear E; intro u E0; have E := Lib.hid E0; clear E0) | ((with_reducible refine kn_alloc (o := ⟨some 3, _, _, _, _, _⟩) E.out rfl rfl ?_); clear E; intro g3 u E0 hb0; have E := Lib.hid E0; clear E0 hb0) | ((with_reducible refine kn_box (o := ⟨some 3, _, _, _, _, _⟩) E.out rfl rfl rfl ?_); clear E; intro g3 u E0 hb0; have E := Lib.hid E0; clear E0 hb0) | ((with_reducible refine kn_box_int (o := ⟨some 3, _, _, _, _, _⟩) E.out rfl rfl rfl ?_); clear E; intro g3 u E0 hb0; have E := Lib.hid E0; clear E0 hb0) | ((with_reducible refine kn_box_slice (o := ⟨some 3, _, _, _, _, _⟩) E.out rfl rfl rfl ?_); clear E; intro g3 u E0 hb0; have E := Lib.hid E0; clear E0 hb0) | ((with_reducible refine kn_box_bool (o := ⟨some 3, _, _, _, _, _⟩) E.out rfl rfl rfl ?_); clear E; intro g3 u E0 hb0; have E := Lib.hid E0; clear E0 hb0) | ((with_reducible refine kn_box_func (o := ⟨some 3, _, _, _, _, _⟩) E.out rfl rfl rfl ?_); clear E; intro g3 u E0 hb0; have E := Lib.hid E0; clear E0 hb0) | ((with_reducible refine kn_alloc (o := ⟨some 4, _, _, _, _, _⟩) E.out rfl rfl ?_); clear E; intro g4 u E0 hb0; have E := Lib.hid E0; clear E0 hb0) | ((with_reducible refine kn_box (o := ⟨some 4, _, _, _, _, _⟩) E.out rfl rfl rfl ?_); clear E; intro g4 u E0 hb0; have E := Lib.hid E0; clear E0 hb0) | ((with_reducible refine kn_box_int (o := ⟨some 4, _, _, _, _, _⟩) E.out rfl rfl rfl ?_); clear E; intro g4 u E0 hb0; have E := Lib.hid E0; clear E0 hb0) | ((with_reducible refine kn_box_slice (o := ⟨some 4, _, _, _, _, _⟩) E.out rfl rfl rfl ?_); clear E; intro g4 u E0 hb0; have E := Lib.hid E0; clear E0 hb0) | ((with_reducible refine kn_box_bool (o := ⟨some 4, _, _, _, _, _⟩) E.out rfl rfl rfl ?_); clear E; intro g4 u E0 hb0; have E := Lib.hid E0; clear E0 hb0) | ((with_reducible refine kn_box_func (o := ⟨some 4, _, _, _, _, _⟩) E.out rfl rfl rfl ?_); clear E; intro g4 u E0 hb0; have E := Lib.hid E0; clear E0 hb0) | ((with_reducible refine kn_alloc (o := ⟨some 5, _, _, _, _, _⟩) E.out rfl rfl ?_); clear E; intro g5 u E0 hb0; have E := Lib.hid E0; clear E0 hb0) | ((with_reducible refine kn_box (o := ⟨some 5, _, _, _, _, _⟩) E.out rfl rfl rfl ?_); clear E; intro g5 u E0 hb0; have E := Lib.hid E0; clear E0 hb0) | ((with_reducible refine kn_box_int (o := ⟨some 5, _, _, _, _, _⟩) E.out rfl rfl rfl ?_); clear E; intro g5 u E0 hb0; have E := Lib.hid E0; clear E0 hb0) | ((with_reducible refine kn_box_slice (o := ⟨some 5, _, _, _, _, _⟩) E.out rfl rfl rfl ?_); clear E; intro g5 u E0 hb0; have E := Lib.hid E0; clear E0 hb0) | ((with_reducible refine kn_box_bool (o := ⟨some 5, _, _, _, _, _⟩) E.out rfl rfl rfl ?_); clear E; intro g5 u E0 hb0; have E := Lib.hid E0; clear E0 hb0) | ((with_reducible refine kn_box_func (o := ⟨some 5, _, _, _, _, _⟩) E.out rfl rfl rfl ?_); clear E; intro g5 u E0 hb0; have E := Lib.hid E0; clear E0 hb0))
  go_loopw [9] (fun ck wr => ∃ i : Nat, i ≤ 3 ∧ ck = .int .i64 (i : Int) ∧ Hid (Kn w [.row gz 34 (i64s ZS), .row g5 34 (i64s [c0, c1, c2]), .row g4 34 (i64s [b0, b1, b2]), .row g3 34 (i64s [a0, a1, a2])] [] wr)) (fun ck _ => 3 - (intOf ck).toNat)
  case atStart => exact ⟨0, by omega, rfl, E⟩
  case round =>
    clear E
    obtain ⟨i, hi, rfl, E⟩ := hrel
    by_cases hlt : i < 3
    · have hi3 : (i : Int) < 3 := by omega
      obtain ⟨ho0, ho1, ho2⟩ := HO.out i hlt
      have hz0 := i64s_get ZS (i * 3 + 0) (by have := hzl.out; omega)
      have hz1 := i64s_get ZS (i * 3 + 1) (by have := hzl.out; omega)
      have hz2 := i64s_get ZS (i * 3 + 2) (by have := hzl.out; omega)
      obtain ⟨y0, hy0⟩ : ∃ z, ZS.getD (i * 3 + 0) 0 = z := ⟨_, rfl⟩
      rw [hy0] at hz0 ho0
      replace hz0 := Lib.hid hz0
      obtain ⟨y1, hy1⟩ : ∃ z, ZS.getD (i * 3 + 1) 0 = z := ⟨_, rfl⟩
      rw [hy1] at hz1 ho1
      replace hz1 := Lib.hid hz1
      obtain ⟨y2, hy2⟩ : ∃ z, ZS.getD (i * 3 + 2) 0 = z := ⟨_, rfl⟩
      rw [hy2] at hz2 ho2
      replace hz2 := Lib.hid hz2
      have hI0 := Lib.hid (fun u => in_yes y0 0 63 ho0 u)
      have hI1 := Lib.hid (fun u => in_yes y1 0 127 ho1 u)
      have hI2 := Lib.hid (fun u => in_yes y2 0 63 ho2 u)
      clear P0 P1 P2 P3 P4 P5 P6 P7 P8 P30 PK PA PB KP KS KK hR1 hR2 S0 S4 S5 S6 S7 S8 HO hbg hna hnb hG0 hgl hkl hbl
      go_wp2_with (first
        | ((with_reducible refine kn_load (g := gz) (i := i * 3 + 0) E.out rfl rfl rfl hz0.out ?_)) | ((with_reducible refine kn_load_if (g := gz) (i := i * 3 + 0) E.out rfl rfl rfl hz0.out ?_))
        | ((with_reducible refine kn_load (g := gz) (i := i * 3 + 1) E.out rfl rfl rfl hz1.out ?_)) | ((with_reducible refine kn_load_if (g := gz) (i := i * 3 + 1) E.out rfl rfl rfl hz1.out ?_))
        | ((with_reducible refine kn_load (g := gz) (i := i * 3 + 2) E.out rfl rfl rfl hz2.out ?_)) | ((with_reducible refine kn_load_if (g := gz) (i := i * 3 + 2) E.out rfl rfl rfl hz2.out ?_))
        | (go_at_call 37; (with_reducible refine (hI0.out _).mono ?_); clear hI0; rintro e w1 ⟨rfl, rfl⟩)
        | (go_at_call 37; (with_reducible refine (hI1.out _).mono ?_); clear hI1; rintro e w1 ⟨rfl, rfl⟩)
        | (go_at_call 37; (with_reducible refine (hI2.out _).mono ?_); clear hI2; rintro e w1 ⟨rfl, rfl⟩)
        | ((with_reducible refine kn_load E.out rfl rfl rfl rfl ?_)) | ((with_reducible refine kn_load_if E.out rfl rfl rfl rfl ?_)) | ((with_reducible refine kn_loads E.out rfl rfl rfl ?_ ?_); (focus (first | rfl | (simp only [i64s_length, u8s_length]; first | rfl | assumption | omega)))) | ((with_reducible refine kn_loads_if E.out rfl rfl rfl ?_ ?_); (focus (first | rfl | (simp only [i64s_length, u8s_length]; first | rfl | assumption | omega)))) | ((with_reducible refine kn_stores E.out rfl rfl rfl rfl rfl ?_ ?_ ?_); (focus (first | exact ⟨rfl, rfl⟩ | (simp only [i64s_length, u8s_length]; refine ⟨?_, ?_⟩ <;> first | rfl | assumption | omega))); (focus (first | exact i64s_one _ | exact u8s_one _ | simp [Value.oneCell'])); clear E; intro u E0; have E := Lib.hid E0; clear E0))
      go_roundw
      case rel => exact ⟨i + 1, by omega, by go_num, E⟩
      case measure => simp [intOf]; try omega
    · have hi3 : ¬ ((i : Int) < 3) := by omega
      clear HO
      go_wp2_with (first
        | ((with_reducible refine kn_make8 E.out rfl rfl rfl rfl ?_); clear E; intro gb u E0 hB; rw [← hG0.out] at hB; have E := Lib.hid ((E0.rest gb).new_bsi hB); clear E0 hB)
        | ((with_reducible refine kn_load E.out rfl rfl rfl rfl ?_)) | ((with_reducible refine kn_load_if E.out rfl rfl rfl rfl ?_)) | ((with_reducible refine kn_loads E.out rfl rfl rfl ?_ ?_); (focus (first | rfl | (simp only [i64s_length, u8s_length]; first | rfl | assumption | omega)))) | ((with_reducible refine kn_loads_if E.out rfl rfl rfl ?_ ?_); (focus (first | rfl | (simp only [i64s_length, u8s_length]; first | rfl | assumption | omega)))) | ((with_reducible refine kn_stores E.out rfl rfl rfl rfl rfl ?_ ?_ ?_); (focus (first | exact ⟨rfl, rfl⟩ | (simp only [i64s_length, u8s_length]; refine ⟨?_, ?_⟩ <;> first | rfl | assumption | omega))); (focus (first | exact i64s_one _ | exact u8s_one _ | simp [Value.oneCell'])); clear E; intro u E0; have E := Lib.hid E0; clear E0))
      have hc0 : 8 ≤ 8 ∧ 8 ≤ 9223372036854775807 := by omega
      refine wp_region_held_drew (S := Kn w [.row g5 34 (i64s [c0, c1, c2]), .row g4 34 (i64s [b0, b1, b2]), .row g3 34 (i64s [a0, a1, a2])] []) (by kernel_rfl) (E.out.drew.part _ _ (by repeat (first | exact List.Sublist.refl _ | apply List.Sublist.cons_cons | apply List.Sublist.cons)) (by simp)) (fun kS => ?_)
      have E1 := Lib.hid E.out.drew
      generalize World.drew _ = u1 at kS E1 ⊢
      clear E
      have E := E1
      clear E1
      (refine takeL (i := 0) (v := _) rfl (by kernel_rfl) (by kernel_rfl) (by kernel_rfl) (fun _ _ _ h => h) (by first | exact Or.inl ⟨by rfl, (by intro u hSu; clear hSu; go_simp; try with_reducible rfl)⟩ | exact Or.inr ⟨by rfl, rfl⟩) kS ?_; (try simp only [Act.put, List.setIfInBounds_toArray, List.set_cons_zero, List.set_cons_succ])); (refine takeL (i := 2) (v := _) rfl (by kernel_rfl) (by kernel_rfl) (by kernel_rfl) (fun _ _ _ h => h) (by first | exact Or.inl ⟨by rfl, (by intro u hSu; clear hSu; go_simp; try with_reducible rfl)⟩ | exact Or.inr ⟨by rfl, rfl⟩) kS ?_; (try simp only [Act.put, List.setIfInBounds_toArray, List.set_cons_zero, List.set_cons_succ]))
      (refine takeL (i := 3) (v := _) rfl (by kernel_rfl) (by kernel_rfl) (by kernel_rfl) (fun _ _ _ h => h) (by first | exact yield_load rfl rfl rfl rfl | exact yield_loads rfl rfl rfl rfl | exact yield_loads rfl rfl rfl (by simp only [i64s_length, u8s_length]; first | assumption | omega) | exact yield_loadi rfl rfl rfl (by first | assumption | omega) | exact yield_loadp rfl rfl rfl (by first | assumption | omega)) kS ?_; (try simp only [Act.put, List.setIfInBounds_toArray, List.set_cons_zero, List.set_cons_succ]))
      refine callL (i := 1) rfl (by kernel_rfl) (fun K hK => ?_)
      (rw [if_pos (by rfl)]; go_simp; (with_reducible refine (S0.out _).mono ?_); clear S0; rintro e' w1 ⟨gs0, cs0, rfl, hF0, hlo0, hb⟩; have E1 := Lib.hid (E.out.new_cells hb hlo0 hF0); clear hb E; have E := E1; clear E1; go_wp2_with fail; (refine hK.out _ _ (E.out.part _ _ (by repeat (first | exact List.Sublist.refl _ | apply List.Sublist.cons_cons | apply List.Sublist.cons)) (by simp)) (fun kS => ?_); clear hK K; (try simp only [Act.put, List.setIfInBounds_toArray, List.set_cons_zero, List.set_cons_succ])))
      refine callL (i := 4) rfl (by kernel_rfl) (fun K hK => ?_)
      (rw [if_pos (by rfl)]; go_simp; (with_reducible refine (P0.out _ _ _ _ _ ?hc ?hu ?hg).mono ?_); (case hc => assumption); (case hu => exact E.out.bs (by simp)); (case hg => exact E.out.get (by simp)); clear P0; rintro e' w1 ⟨A0, k0, rfl, hk0, hB0, hb⟩; have E1 := Lib.hid (E.out.later hb); clear hb E; have E := E1; clear E1; have E1 := Lib.hid (E.out.new_bsi hB0); clear E hB0; have E := E1; clear E1; go_wp2_with fail; (refine hK.out _ _ (E.out.part _ _ (by repeat (first | exact List.Sublist.refl _ | apply List.Sublist.cons_cons | apply List.Sublist.cons)) (by simp)) (fun kS => ?_); clear hK K; (try simp only [Act.put, List.setIfInBounds_toArray, List.set_cons_zero, List.set_cons_succ])))
      (refine takeL (i := 5) (v := _) rfl (by kernel_rfl) (by kernel_rfl) (by kernel_rfl) (fun _ _ _ h => h) (by first | exact Or.inl ⟨by rfl, (by intro u hSu; clear hSu; go_simp; try with_reducible rfl)⟩ | exact Or.inr ⟨by rfl, rfl⟩) kS ?_; (try simp only [Act.put, List.setIfInBounds_toArray, List.set_cons_zero, List.set_cons_succ]))
      refine wpAnyH_done (by kernel_rfl) ?_ _
      go_wp2_with (first
        | ((with_reducible refine kn_buildi E.out rfl rfl [7, 9, 10, 11, 12, 13, 14] Tryd.underlying73 hsz_int hz_int ?_ ?_ ?_ ?_ ?_); (focus (rfl)); (focus (omega)); (focus (omega)); (focus (rfl)); clear E; intro gl1 u E0 hg; have E := Lib.hid (E0.rest gl1); clear E0 hg)
        | ((with_reducible refine kn_buildi E.out rfl rfl [15, 19, 20, 22, 23, 24] Tryd.underlying73 hsz_int hz_int ?_ ?_ ?_ ?_ ?_); (focus (rfl)); (focus (omega)); (focus (omega)); (focus (rfl)); clear E; intro gl2 u E0 hg; have E := Lib.hid (E0.rest gl2); clear E0 hg)
        | ((with_reducible refine kn_buildi E.out rfl rfl [25, 26, 27, 28, 29, 31] Tryd.underlying73 hsz_int hz_int ?_ ?_ ?_ ?_ ?_); (focus (rfl)); (focus (omega)); (focus (omega)); (focus (rfl)); clear E; intro gl3 u E0 hg; have E := Lib.hid (E0.rest gl3); clear E0 hg)
        | (go_at_call 38; (with_reducible refine (P1.out _ _ _ _ _ ?hc ?hu ?hg).mono ?_); (case hc => assumption); (case hu => exact E.out.bs (by simp)); (case hg => exact E.out.see); clear P1; rintro e' w1 ⟨A1, k1, rfl, hk1, hB1, hb⟩; have E1 := Lib.hid (E.out.later hb); clear hb E; have E := E1; clear E1; have E1 := Lib.hid (E.out.new_bsi hB1); clear E hB1; have E := E1; clear E1)
        | (go_at_call 38; (with_reducible refine (P2.out _ _ _ _ _ ?hc ?hu ?hg).mono ?_); (case hc => assumption); (case hu => exact E.out.bs (by simp)); (case hg => exact E.out.see); clear P2; rintro e' w1 ⟨A2, k2, rfl, hk2, hB2, hb⟩; have E1 := Lib.hid (E.out.later hb); clear hb E; have E := E1; clear E1; have E1 := Lib.hid (E.out.new_bsi hB2); clear E hB2; have E := E1; clear E1)
        | (go_at_call 38; (with_reducible refine (P3.out _ _ _ _ _ ?hc ?hu ?hg).mono ?_); (case hc => assumption); (case hu => exact E.out.bs (by simp)); (case hg => exact E.out.see); clear P3; rintro e' w1 ⟨A3, k3, rfl, hk3, hB3, hb⟩; have E1 := Lib.hid (E.out.later hb); clear hb E; have E := E1; clear E1; have E1 := Lib.hid (E.out.new_bsi hB3); clear E hB3; have E := E1; clear E1)
        | ((with_reducible refine kn_load E.out rfl rfl rfl rfl ?_)) | ((with_reducible refine kn_load_if E.out rfl rfl rfl rfl ?_)) | ((with_reducible refine kn_loads E.out rfl rfl rfl ?_ ?_); (focus (first | rfl | (simp only [i64s_length, u8s_length]; first | rfl | assumption | omega)))) | ((with_reducible refine kn_loads_if E.out rfl rfl rfl ?_ ?_); (focus (first | rfl | (simp only [i64s_length, u8s_length]; first | rfl | assumption | omega)))) | ((with_reducible refine kn_stores E.out rfl rfl rfl rfl rfl ?_ ?_ ?_); (focus (first | exact ⟨rfl, rfl⟩ | (simp only [i64s_length, u8s_length]; refine ⟨?_, ?_⟩ <;> first | rfl | assumption | omega))); (focus (first | exact i64s_one _ | exact u8s_one _ | simp [Value.oneCell'])); clear E; intro u E0; have E := Lib.hid E0; clear E0))
      refine wp_region_held_drew (S := Kn w [.row g5 34 (i64s [c0, c1, c2]), .row g4 34 (i64s [b0, b1, b2]), .row g3 34 (i64s [a0, a1, a2])] []) (by kernel_rfl) (E.out.drew.part _ _ (by repeat (first | exact List.Sublist.refl _ | apply List.Sublist.cons_cons | apply List.Sublist.cons)) (by simp)) (fun kS => ?_)
      have E1 := Lib.hid E.out.drew
      generalize World.drew _ = u1 at kS E1 ⊢
      clear E
      have E := E1
      clear E1
      (refine takeL (i := 0) (v := _) rfl (by kernel_rfl) (by kernel_rfl) (by kernel_rfl) (fun _ _ _ h => h) (by first | exact Or.inl ⟨by rfl, (by intro u hSu; clear hSu; go_simp; try with_reducible rfl)⟩ | exact Or.inr ⟨by rfl, rfl⟩) kS ?_; (try simp only [Act.put, List.setIfInBounds_toArray, List.set_cons_zero, List.set_cons_succ])); (refine takeL (i := 2) (v := _) rfl (by kernel_rfl) (by kernel_rfl) (by kernel_rfl) (fun _ _ _ h => h) (by first | exact Or.inl ⟨by rfl, (by intro u hSu; clear hSu; go_simp; try with_reducible rfl)⟩ | exact Or.inr ⟨by rfl, rfl⟩) kS ?_; (try simp only [Act.put, List.setIfInBounds_toArray, List.set_cons_zero, List.set_cons_succ]))
      (refine takeL (i := 3) (v := _) rfl (by kernel_rfl) (by kernel_rfl) (by kernel_rfl) (fun _ _ _ h => h) (by first | exact yield_load rfl rfl rfl rfl | exact yield_loads rfl rfl rfl rfl | exact yield_loads rfl rfl rfl (by simp only [i64s_length, u8s_length]; first | assumption | omega) | exact yield_loadi rfl rfl rfl (by first | assumption | omega) | exact yield_loadp rfl rfl rfl (by first | assumption | omega)) kS ?_; (try simp only [Act.put, List.setIfInBounds_toArray, List.set_cons_zero, List.set_cons_succ]))
      refine callL (i := 1) rfl (by kernel_rfl) (fun K hK => ?_)
      (rw [if_pos (by rfl)]; go_simp; (with_reducible refine (S4.out _).mono ?_); clear S4; rintro e' w1 ⟨gs4, cs4, rfl, hF4, hlo4, hb⟩; have E1 := Lib.hid (E.out.new_cells hb hlo4 hF4); clear hb E; have E := E1; clear E1; go_wp2_with fail; (refine hK.out _ _ (E.out.part _ _ (by repeat (first | exact List.Sublist.refl _ | apply List.Sublist.cons_cons | apply List.Sublist.cons)) (by simp)) (fun kS => ?_); clear hK K; (try simp only [Act.put, List.setIfInBounds_toArray, List.set_cons_zero, List.set_cons_succ])))
      refine callL (i := 4) rfl (by kernel_rfl) (fun K hK => ?_)
      (rw [if_pos (by rfl)]; go_simp; (with_reducible refine (P4.out _ _ _ _ _ ?hc ?hu ?hg).mono ?_); (case hc => assumption); (case hu => exact E.out.bs (by simp)); (case hg => exact E.out.get (by simp)); clear P4; rintro e' w1 ⟨A4, k4, rfl, hk4, hB4, hb⟩; have E1 := Lib.hid (E.out.later hb); clear hb E; have E := E1; clear E1; have E1 := Lib.hid (E.out.new_bsi hB4); clear E hB4; have E := E1; clear E1; go_wp2_with fail; (refine hK.out _ _ (E.out.part _ _ (by repeat (first | exact List.Sublist.refl _ | apply List.Sublist.cons_cons | apply List.Sublist.cons)) (by simp)) (fun kS => ?_); clear hK K; (try simp only [Act.put, List.setIfInBounds_toArray, List.set_cons_zero, List.set_cons_succ])))
      (refine takeL (i := 5) (v := _) rfl (by kernel_rfl) (by kernel_rfl) (by kernel_rfl) (fun _ _ _ h => h) (by first | exact Or.inl ⟨by rfl, (by intro u hSu; clear hSu; go_simp; try with_reducible rfl)⟩ | exact Or.inr ⟨by rfl, rfl⟩) kS ?_; (try simp only [Act.put, List.setIfInBounds_toArray, List.set_cons_zero, List.set_cons_succ]))
      refine wpAnyH_done (by kernel_rfl) ?_ _
      go_wp2_with fail
      refine wp_region_held_drew (S := Kn w [.row g5 34 (i64s [c0, c1, c2]), .row g4 34 (i64s [b0, b1, b2]), .row g3 34 (i64s [a0, a1, a2])] []) (by kernel_rfl) (E.out.drew.part _ _ (by repeat (first | exact List.Sublist.refl _ | apply List.Sublist.cons_cons | apply List.Sublist.cons)) (by simp)) (fun kS => ?_)
      have E1 := Lib.hid E.out.drew
      generalize World.drew _ = u1 at kS E1 ⊢
      clear E
      have E := E1
      clear E1
      (refine takeL (i := 0) (v := _) rfl (by kernel_rfl) (by kernel_rfl) (by kernel_rfl) (fun _ _ _ h => h) (by first | exact Or.inl ⟨by rfl, (by intro u hSu; clear hSu; go_simp; try with_reducible rfl)⟩ | exact Or.inr ⟨by rfl, rfl⟩) kS ?_; (try simp only [Act.put, List.setIfInBounds_toArray, List.set_cons_zero, List.set_cons_succ])); (refine takeL (i := 2) (v := _) rfl (by kernel_rfl) (by kernel_rfl) (by kernel_rfl) (fun _ _ _ h => h) (by first | exact Or.inl ⟨by rfl, (by intro u hSu; clear hSu; go_simp; try with_reducible rfl)⟩ | exact Or.inr ⟨by rfl, rfl⟩) kS ?_; (try simp only [Act.put, List.setIfInBounds_toArray, List.set_cons_zero, List.set_cons_succ]))
      (refine takeL (i := 3) (v := _) rfl (by kernel_rfl) (by kernel_rfl) (by kernel_rfl) (fun _ _ _ h => h) (by first | exact yield_load rfl rfl rfl rfl | exact yield_loads rfl rfl rfl rfl | exact yield_loads rfl rfl rfl (by simp only [i64s_length, u8s_length]; first | assumption | omega) | exact yield_loadi rfl rfl rfl (by first | assumption | omega) | exact yield_loadp rfl rfl rfl (by first | assumption | omega)) kS ?_; (try simp only [Act.put, List.setIfInBounds_toArray, List.set_cons_zero, List.set_cons_succ]))
      refine callL (i := 1) rfl (by kernel_rfl) (fun K hK => ?_)
      (rw [if_pos (by rfl)]; go_simp; (with_reducible refine (S5.out _).mono ?_); clear S5; rintro e' w1 ⟨gs5, cs5, rfl, hF5, hlo5, hb⟩; have E1 := Lib.hid (E.out.new_cells hb hlo5 hF5); clear hb E; have E := E1; clear E1; go_wp2_with fail; (refine hK.out _ _ (E.out.part _ _ (by repeat (first | exact List.Sublist.refl _ | apply List.Sublist.cons_cons | apply List.Sublist.cons)) (by simp)) (fun kS => ?_); clear hK K; (try simp only [Act.put, List.setIfInBounds_toArray, List.set_cons_zero, List.set_cons_succ])))
      refine callL (i := 4) rfl (by kernel_rfl) (fun K hK => ?_)
      (rw [if_pos (by rfl)]; go_simp; (with_reducible refine (P5.out _ _ _ _ _ ?hc ?hu ?hg).mono ?_); (case hc => assumption); (case hu => exact E.out.bs (by simp)); (case hg => exact E.out.get (by simp)); clear P5; rintro e' w1 ⟨A5, k5, rfl, hk5, hB5, hb⟩; have E1 := Lib.hid (E.out.later hb); clear hb E; have E := E1; clear E1; have E1 := Lib.hid (E.out.new_bsi hB5); clear E hB5; have E := E1; clear E1; go_wp2_with fail; (refine hK.out _ _ (E.out.part _ _ (by repeat (first | exact List.Sublist.refl _ | apply List.Sublist.cons_cons | apply List.Sublist.cons)) (by simp)) (fun kS => ?_); clear hK K; (try simp only [Act.put, List.setIfInBounds_toArray, List.set_cons_zero, List.set_cons_succ])))
      (refine takeL (i := 5) (v := _) rfl (by kernel_rfl) (by kernel_rfl) (by kernel_rfl) (fun _ _ _ h => h) (by first | exact Or.inl ⟨by rfl, (by intro u hSu; clear hSu; go_simp; try with_reducible rfl)⟩ | exact Or.inr ⟨by rfl, rfl⟩) kS ?_; (try simp only [Act.put, List.setIfInBounds_toArray, List.set_cons_zero, List.set_cons_succ]))
      refine wpAnyH_done (by kernel_rfl) ?_ _
      go_wp2_with fail
      refine wp_region_held_drew (S := Kn w [.row g5 34 (i64s [c0, c1, c2]), .row g4 34 (i64s [b0, b1, b2]), .row g3 34 (i64s [a0, a1, a2])] []) (by kernel_rfl) (E.out.drew.part _ _ (by repeat (first | exact List.Sublist.refl _ | apply List.Sublist.cons_cons | apply List.Sublist.cons)) (by simp)) (fun kS => ?_)
      have E1 := Lib.hid E.out.drew
      generalize World.drew _ = u1 at kS E1 ⊢
      clear E
      have E := E1
      clear E1
      (refine takeL (i := 0) (v := _) rfl (by kernel_rfl) (by kernel_rfl) (by kernel_rfl) (fun _ _ _ h => h) (by first | exact Or.inl ⟨by rfl, (by intro u hSu; clear hSu; go_simp; try with_reducible rfl)⟩ | exact Or.inr ⟨by rfl, rfl⟩) kS ?_; (try simp only [Act.put, List.setIfInBounds_toArray, List.set_cons_zero, List.set_cons_succ])); (refine takeL (i := 2) (v := _) rfl (by kernel_rfl) (by kernel_rfl) (by kernel_rfl) (fun _ _ _ h => h) (by first | exact Or.inl ⟨by rfl, (by intro u hSu; clear hSu; go_simp; try with_reducible rfl)⟩ | exact Or.inr ⟨by rfl, rfl⟩) kS ?_; (try simp only [Act.put, List.setIfInBounds_toArray, List.set_cons_zero, List.set_cons_succ]))
      (refine takeL (i := 3) (v := _) rfl (by kernel_rfl) (by kernel_rfl) (by kernel_rfl) (fun _ _ _ h => h) (by first | exact yield_load rfl rfl rfl rfl | exact yield_loads rfl rfl rfl rfl | exact yield_loads rfl rfl rfl (by simp only [i64s_length, u8s_length]; first | assumption | omega) | exact yield_loadi rfl rfl rfl (by first | assumption | omega) | exact yield_loadp rfl rfl rfl (by first | assumption | omega)) kS ?_; (try simp only [Act.put, List.setIfInBounds_toArray, List.set_cons_zero, List.set_cons_succ]))
      refine callL (i := 1) rfl (by kernel_rfl) (fun K hK => ?_)
      (rw [if_pos (by rfl)]; go_simp; (with_reducible refine (S6.out _).mono ?_); clear S6; rintro e' w1 ⟨gs6, cs6, rfl, hF6, hlo6, hb⟩; have E1 := Lib.hid (E.out.new_cells hb hlo6 hF6); clear hb E; have E := E1; clear E1; go_wp2_with fail; (refine hK.out _ _ (E.out.part _ _ (by repeat (first | exact List.Sublist.refl _ | apply List.Sublist.cons_cons | apply List.Sublist.cons)) (by simp)) (fun kS => ?_); clear hK K; (try simp only [Act.put, List.setIfInBounds_toArray, List.set_cons_zero, List.set_cons_succ])))
      refine callL (i := 4) rfl (by kernel_rfl) (fun K hK => ?_)
      (rw [if_pos (by rfl)]; go_simp; (with_reducible refine (P6.out _ _ _ _ _ ?hc ?hu ?hg).mono ?_); (case hc => assumption); (case hu => exact E.out.bs (by simp)); (case hg => exact E.out.get (by simp)); clear P6; rintro e' w1 ⟨A6, k6, rfl, hk6, hB6, hb⟩; have E1 := Lib.hid (E.out.later hb); clear hb E; have E := E1; clear E1; have E1 := Lib.hid (E.out.new_bsi hB6); clear E hB6; have E := E1; clear E1; go_wp2_with fail; (refine hK.out _ _ (E.out.part _ _ (by repeat (first | exact List.Sublist.refl _ | apply List.Sublist.cons_cons | apply List.Sublist.cons)) (by simp)) (fun kS => ?_); clear hK K; (try simp only [Act.put, List.setIfInBounds_toArray, List.set_cons_zero, List.set_cons_succ])))
      (refine takeL (i := 5) (v := _) rfl (by kernel_rfl) (by kernel_rfl) (by kernel_rfl) (fun _ _ _ h => h) (by first | exact Or.inl ⟨by rfl, (by intro u hSu; clear hSu; go_simp; try with_reducible rfl)⟩ | exact Or.inr ⟨by rfl, rfl⟩) kS ?_; (try simp only [Act.put, List.setIfInBounds_toArray, List.set_cons_zero, List.set_cons_succ]))
      refine wpAnyH_done (by kernel_rfl) ?_ _
      go_wp2_with fail
      refine wp_region_held_drew (S := Kn w [.row g5 34 (i64s [c0, c1, c2]), .row g4 34 (i64s [b0, b1, b2]), .row g3 34 (i64s [a0, a1, a2])] []) (by kernel_rfl) (E.out.drew.part _ _ (by repeat (first | exact List.Sublist.refl _ | apply List.Sublist.cons_cons | apply List.Sublist.cons)) (by simp)) (fun kS => ?_)
      have E1 := Lib.hid E.out.drew
      generalize World.drew _ = u1 at kS E1 ⊢
      clear E
      have E := E1
      clear E1
      (refine takeL (i := 0) (v := _) rfl (by kernel_rfl) (by kernel_rfl) (by kernel_rfl) (fun _ _ _ h => h) (by first | exact Or.inl ⟨by rfl, (by intro u hSu; clear hSu; go_simp; try with_reducible rfl)⟩ | exact Or.inr ⟨by rfl, rfl⟩) kS ?_; (try simp only [Act.put, List.setIfInBounds_toArray, List.set_cons_zero, List.set_cons_succ])); (refine takeL (i := 2) (v := _) rfl (by kernel_rfl) (by kernel_rfl) (by kernel_rfl) (fun _ _ _ h => h) (by first | exact Or.inl ⟨by rfl, (by intro u hSu; clear hSu; go_simp; try with_reducible rfl)⟩ | exact Or.inr ⟨by rfl, rfl⟩) kS ?_; (try simp only [Act.put, List.setIfInBounds_toArray, List.set_cons_zero, List.set_cons_succ]))
      (refine takeL (i := 3) (v := _) rfl (by kernel_rfl) (by kernel_rfl) (by kernel_rfl) (fun _ _ _ h => h) (by first | exact yield_load rfl rfl rfl rfl | exact yield_loads rfl rfl rfl rfl | exact yield_loads rfl rfl rfl (by simp only [i64s_length, u8s_length]; first | assumption | omega) | exact yield_loadi rfl rfl rfl (by first | assumption | omega) | exact yield_loadp rfl rfl rfl (by first | assumption | omega)) kS ?_; (try simp only [Act.put, List.setIfInBounds_toArray, List.set_cons_zero, List.set_cons_succ]))
      refine callL (i := 1) rfl (by kernel_rfl) (fun K hK => ?_)
      (rw [if_pos (by rfl)]; go_simp; (with_reducible refine (S7.out _).mono ?_); clear S7; rintro e' w1 ⟨gs7, cs7, rfl, hF7, hlo7, hb⟩; have E1 := Lib.hid (E.out.new_cells hb hlo7 hF7); clear hb E; have E := E1; clear E1; go_wp2_with fail; (refine hK.out _ _ (E.out.part _ _ (by repeat (first | exact List.Sublist.refl _ | apply List.Sublist.cons_cons | apply List.Sublist.cons)) (by simp)) (fun kS => ?_); clear hK K; (try simp only [Act.put, List.setIfInBounds_toArray, List.set_cons_zero, List.set_cons_succ])))
      refine callL (i := 4) rfl (by kernel_rfl) (fun K hK => ?_)
      (rw [if_pos (by rfl)]; go_simp; (with_reducible refine (P7.out _ _ _ _ _ ?hc ?hu ?hg).mono ?_); (case hc => assumption); (case hu => exact E.out.bs (by simp)); (case hg => exact E.out.get (by simp)); clear P7; rintro e' w1 ⟨A7, k7, rfl, hk7, hB7, hb⟩; have E1 := Lib.hid (E.out.later hb); clear hb E; have E := E1; clear E1; have E1 := Lib.hid (E.out.new_bsi hB7); clear E hB7; have E := E1; clear E1; go_wp2_with fail; (refine hK.out _ _ (E.out.part _ _ (by repeat (first | exact List.Sublist.refl _ | apply List.Sublist.cons_cons | apply List.Sublist.cons)) (by simp)) (fun kS => ?_); clear hK K; (try simp only [Act.put, List.setIfInBounds_toArray, List.set_cons_zero, List.set_cons_succ])))
      (refine takeL (i := 5) (v := _) rfl (by kernel_rfl) (by kernel_rfl) (by kernel_rfl) (fun _ _ _ h => h) (by first | exact Or.inl ⟨by rfl, (by intro u hSu; clear hSu; go_simp; try with_reducible rfl)⟩ | exact Or.inr ⟨by rfl, rfl⟩) kS ?_; (try simp only [Act.put, List.setIfInBounds_toArray, List.set_cons_zero, List.set_cons_succ]))
      refine wpAnyH_done (by kernel_rfl) ?_ _
      go_wp2_with fail
      refine wp_region_held_drew (S := Kn w [.row g5 34 (i64s [c0, c1, c2]), .row g4 34 (i64s [b0, b1, b2]), .row g3 34 (i64s [a0, a1, a2])] []) (by kernel_rfl) (E.out.drew.part _ _ (by repeat (first | exact List.Sublist.refl _ | apply List.Sublist.cons_cons | apply List.Sublist.cons)) (by simp)) (fun kS => ?_)
      have E1 := Lib.hid E.out.drew
      generalize World.drew _ = u1 at kS E1 ⊢
      clear E
      have E := E1
      clear E1
      (refine takeL (i := 0) (v := _) rfl (by kernel_rfl) (by kernel_rfl) (by kernel_rfl) (fun _ _ _ h => h) (by first | exact Or.inl ⟨by rfl, (by intro u hSu; clear hSu; go_simp; try with_reducible rfl)⟩ | exact Or.inr ⟨by rfl, rfl⟩) kS ?_; (try simp only [Act.put, List.setIfInBounds_toArray, List.set_cons_zero, List.set_cons_succ])); (refine takeL (i := 2) (v := _) rfl (by kernel_rfl) (by kernel_rfl) (by kernel_rfl) (fun _ _ _ h => h) (by first | exact Or.inl ⟨by rfl, (by intro u hSu; clear hSu; go_simp; try with_reducible rfl)⟩ | exact Or.inr ⟨by rfl, rfl⟩) kS ?_; (try simp only [Act.put, List.setIfInBounds_toArray, List.set_cons_zero, List.set_cons_succ]))
      (refine takeL (i := 3) (v := _) rfl (by kernel_rfl) (by kernel_rfl) (by kernel_rfl) (fun _ _ _ h => h) (by first | exact yield_load rfl rfl rfl rfl | exact yield_loads rfl rfl rfl rfl | exact yield_loads rfl rfl rfl (by simp only [i64s_length, u8s_length]; first | assumption | omega) | exact yield_loadi rfl rfl rfl (by first | assumption | omega) | exact yield_loadp rfl rfl rfl (by first | assumption | omega)) kS ?_; (try simp only [Act.put, List.setIfInBounds_toArray, List.set_cons_zero, List.set_cons_succ]))
      refine callL (i := 1) rfl (by kernel_rfl) (fun K hK => ?_)
      (rw [if_pos (by rfl)]; go_simp; (with_reducible refine (S8.out _).mono ?_); clear S8; rintro e' w1 ⟨gs8, cs8, rfl, hF8, hlo8, hb⟩; have E1 := Lib.hid (E.out.new_cells hb hlo8 hF8); clear hb E; have E := E1; clear E1; go_wp2_with fail; (refine hK.out _ _ (E.out.part _ _ (by repeat (first | exact List.Sublist.refl _ | apply List.Sublist.cons_cons | apply List.Sublist.cons)) (by simp)) (fun kS => ?_); clear hK K; (try simp only [Act.put, List.setIfInBounds_toArray, List.set_cons_zero, List.set_cons_succ])))
      refine callL (i := 4) rfl (by kernel_rfl) (fun K hK => ?_)
      (rw [if_pos (by rfl)]; go_simp; (with_reducible refine (P8.out _ _ _ _ _ ?hc ?hu ?hg).mono ?_); (case hc => assumption); (case hu => exact E.out.bs (by simp)); (case hg => exact E.out.get (by simp)); clear P8; rintro e' w1 ⟨A8, k8, rfl, hk8, hB8, hb⟩; have E1 := Lib.hid (E.out.later hb); clear hb E; have E := E1; clear E1; have E1 := Lib.hid (E.out.new_bsi hB8); clear E hB8; have E := E1; clear E1; go_wp2_with fail; (refine hK.out _ _ (E.out.part _ _ (by repeat (first | exact List.Sublist.refl _ | apply List.Sublist.cons_cons | apply List.Sublist.cons)) (by simp)) (fun kS => ?_); clear hK K; (try simp only [Act.put, List.setIfInBounds_toArray, List.set_cons_zero, List.set_cons_succ])))
      (refine takeL (i := 5) (v := _) rfl (by kernel_rfl) (by kernel_rfl) (by kernel_rfl) (fun _ _ _ h => h) (by first | exact Or.inl ⟨by rfl, (by intro u hSu; clear hSu; go_simp; try with_reducible rfl)⟩ | exact Or.inr ⟨by rfl, rfl⟩) kS ?_; (try simp only [Act.put, List.setIfInBounds_toArray, List.set_cons_zero, List.set_cons_succ]))
      refine wpAnyH_done (by kernel_rfl) ?_ _
      go_wp2_with (first
        | ((with_reducible refine kn_buildi E.out rfl rfl [30] Tryd.underlying73 hsz_int hz_int ?_ ?_ ?_ ?_ ?_); (focus (rfl)); (focus (omega)); (focus (omega)); (focus (rfl)); clear E; intro gl30 u E0 hg; have E := Lib.hid (E0.rest gl30); clear E0 hg)
        | (go_at_call 38; (with_reducible refine (P30.out _ _ _ _ _ ?hc ?hu ?hg).mono ?_); (case hc => assumption); (case hu => exact E.out.bs (by simp)); (case hg => exact E.out.see); clear P30; rintro e' w1 ⟨A30, k30, rfl, hk30, hB30, hb⟩; have E1 := Lib.hid (E.out.later hb); clear hb E; have E := E1; clear E1; have E1 := Lib.hid (E.out.new_bsi hB30); clear E hB30; have E := E1; clear E1)
        | ((with_reducible refine kn_load E.out rfl rfl rfl rfl ?_)) | ((with_reducible refine kn_load_if E.out rfl rfl rfl rfl ?_)) | ((with_reducible refine kn_loads E.out rfl rfl rfl ?_ ?_); (focus (first | rfl | (simp only [i64s_length, u8s_length]; first | rfl | assumption | omega)))) | ((with_reducible refine kn_loads_if E.out rfl rfl rfl ?_ ?_); (focus (first | rfl | (simp only [i64s_length, u8s_length]; first | rfl | assumption | omega)))) | ((with_reducible refine kn_stores E.out rfl rfl rfl rfl rfl ?_ ?_ ?_); (focus (first | exact ⟨rfl, rfl⟩ | (simp only [i64s_length, u8s_length]; refine ⟨?_, ?_⟩ <;> first | rfl | assumption | omega))); (focus (first | exact i64s_one _ | exact u8s_one _ | simp [Value.oneCell'])); clear E; intro u E0; have E := Lib.hid E0; clear E0))
      go_loopw [10, 11] (fun bk ck wr => ∃ (j : Nat) (A1 : Option Addr) (k1 : Nat), j ≤ 2 ∧ ck = .int .i64 (j : Int) ∧ bk = .slice A1 8 k1 ∧ (8 ≤ k1 ∧ k1 ≤ 9223372036854775807) ∧ Hid (Kn w [] [bsF A1 8 (KB j)] wr)) (fun _ ck _ => 2 - (intOf ck).toNat)
      case atStart => exact ⟨0, A30, k30, by omega, rfl, rfl, hk30, E.out.part _ _ (by repeat (first | exact List.Sublist.refl _ | apply List.Sublist.cons_cons | apply List.Sublist.cons)) (by simp)⟩
      case round =>
        clear E
        obtain ⟨j, B0, m0, hj, rfl, rfl, hm0, E⟩ := hrel
        have hz24 := Lib.hid z24_length
        by_cases hltj : j < 2
        · have hj2 : (j : Int) < 2 := by omega
          have hj3 : (j : Int) < 3 := by omega
          have hP := Lib.hid (fun A c u hu => KP.out j A c u hu)
          obtain ⟨s1, s2, s3⟩ := KS.out j hltj
          have hKp := Lib.hid (fun hw => PK.out j hltj hw)
          have hKk := Lib.hid (fun hw => KK.out j hltj hw)
          have hZ := Lib.hid (pZ_length (KB j))
          have cA := Lib.hid (blk_z (pD (KB j)) (pF (KB j)) (pZ (KB j)) (show 2 + j = j + 2 by omega) (by rw [pZ_length]; omega))
          have cB := Lib.hid (blk_z (pD (KB j)) (pF (KB j)) (pZ (KB j)) (show 5 + j = (3 + j) + 2 by omega) (by rw [pZ_length]; omega))
          have hjl := Lib.hid (hkl.out (j + 1))
          clear KP KS PK KK PA PB hR1 hR2 hbg hna hnb hG0 hgl hkl hbl
          generalize pD (KB j) = d at *
          generalize pF (KB j) = f at *
          generalize pZ (KB j) = Z at *
          generalize Z.getD j 0 = av at *
          generalize Z.getD (3 + j) 0 = bv at *
          have hw : IntKind.i64.wrap (av + bv) = av + bv := by rw [IntKind.wrap_i64]; omega
          replace hw := Lib.hid hw
          go_wp2_with (first
            | (go_at_call 40; (with_reducible refine (hP.out _ _ _ ?ha).mono ?_); (case ha => exact E.out.bs (by simp)); clear hP; rintro e w2 ⟨rfl, hb⟩; have E1 := Lib.hid (E.out.later hb); clear hb E; have E := E1; clear E1)
            | ((with_reducible refine kn_bputall (g := g12) E.out rfl rfl rfl rfl rfl ?h1 ?h2 ?_); (case h1 => exact hz24.out); (case h2 => exact hZ.out); clear E; intro u E0; have E := Lib.hid E0; clear E0)
            | ((with_reducible refine kn_load E.out rfl rfl rfl rfl ?_)) | ((with_reducible refine kn_load_if E.out rfl rfl rfl rfl ?_)) | ((with_reducible refine kn_loads E.out rfl rfl rfl ?_ ?_); (focus (first | rfl | (simp only [i64s_length, u8s_length]; first | rfl | assumption | omega)))) | ((with_reducible refine kn_loads_if E.out rfl rfl rfl ?_ ?_); (focus (first | rfl | (simp only [i64s_length, u8s_length]; first | rfl | assumption | omega)))) | ((with_reducible refine kn_stores E.out rfl rfl rfl rfl rfl ?_ ?_ ?_); (focus (first | exact ⟨rfl, rfl⟩ | (simp only [i64s_length, u8s_length]; refine ⟨?_, ?_⟩ <;> first | rfl | assumption | omega))); (focus (first | exact i64s_one _ | exact u8s_one _ | simp [Value.oneCell'])); clear E; intro u E0; have E := Lib.hid E0; clear E0) | ((with_reducible refine kn_alloc (o := ⟨some 12, _, _, _, _, _⟩) E.out rfl rfl ?_); clear E; intro g12 u E0 hb0; have E := Lib.hid E0; clear E0 hb0) | ((with_reducible refine kn_box (o := ⟨some 12, _, _, _, _, _⟩) E.out rfl rfl rfl ?_); clear E; intro g12 u E0 hb0; have E := Lib.hid E0; clear E0 hb0) | ((with_reducible refine kn_box_int (o := ⟨some 12, _, _, _, _, _⟩) E.out rfl rfl rfl ?_); clear E; intro g12 u E0 hb0; have E := Lib.hid E0; clear E0 hb0) | ((with_reducible refine kn_box_slice (o := ⟨some 12, _, _, _, _, _⟩) E.out rfl rfl rfl ?_); clear E; intro g12 u E0 hb0; have E := Lib.hid E0; clear E0 hb0) | ((with_reducible refine kn_box_bool (o := ⟨some 12, _, _, _, _, _⟩) E.out rfl rfl rfl ?_); clear E; intro g12 u E0 hb0; have E := Lib.hid E0; clear E0 hb0) | ((with_reducible refine kn_box_func (o := ⟨some 12, _, _, _, _, _⟩) E.out rfl rfl rfl ?_); clear E; intro g12 u E0 hb0; have E := Lib.hid E0; clear E0 hb0))
          refine wp_region_held_drew (S := Kn w [.row g12 65 (blk d f Z)] []) (by kernel_rfl) (E.out.drew.part _ _ (by repeat (first | exact List.Sublist.refl _ | apply List.Sublist.cons_cons | apply List.Sublist.cons)) (by simp)) (fun kS => ?_)
          have E1 := Lib.hid E.out.drew
          generalize World.drew _ = u1 at kS E1 ⊢
          clear E
          have E := E1
          clear E1
          (refine takeL (i := 0) (v := _) rfl (by kernel_rfl) (by kernel_rfl) (by kernel_rfl) (fun _ _ _ h => h) (by first | exact Or.inl ⟨by rfl, (by intro u hSu; clear hSu; go_simp; try with_reducible rfl)⟩ | exact Or.inr ⟨by rfl, rfl⟩) kS ?_; (try simp only [Act.put, List.setIfInBounds_toArray, List.set_cons_zero, List.set_cons_succ])); (refine takeL (i := 1) (v := _) rfl (by kernel_rfl) (by kernel_rfl) (by kernel_rfl) (fun _ _ _ h => h) (by first | exact Or.inl ⟨by rfl, (by intro u hSu; clear hSu; go_simp; try with_reducible rfl)⟩ | exact Or.inr ⟨by rfl, rfl⟩) kS ?_; (try simp only [Act.put, List.setIfInBounds_toArray, List.set_cons_zero, List.set_cons_succ])); (refine takeL (i := 2) (v := _) rfl (by kernel_rfl) (by kernel_rfl) (by kernel_rfl) (fun _ _ _ h => h) (by first | exact Or.inl ⟨by rfl, (by intro u hSu; clear hSu; go_simp; try with_reducible rfl)⟩ | exact Or.inr ⟨by rfl, rfl⟩) kS ?_; (try simp only [Act.put, List.setIfInBounds_toArray, List.set_cons_zero, List.set_cons_succ]))
          (refine takeL (i := 3) (v := _) rfl (by kernel_rfl) (by kernel_rfl) (by kernel_rfl) (fun _ _ _ h => h) (yield_load (g := g12) (i := 2 + j) rfl rfl rfl cA.out) kS ?_; (try simp only [Act.put, List.setIfInBounds_toArray, List.set_cons_zero, List.set_cons_succ]))
          (refine takeL (i := 4) (v := _) rfl (by kernel_rfl) (by kernel_rfl) (by kernel_rfl) (fun _ _ _ h => h) (by first | exact Or.inl ⟨by rfl, (by intro u hSu; clear hSu; go_simp; try with_reducible rfl)⟩ | exact Or.inr ⟨by rfl, rfl⟩) kS ?_; (try simp only [Act.put, List.setIfInBounds_toArray, List.set_cons_zero, List.set_cons_succ])); (refine takeL (i := 5) (v := _) rfl (by kernel_rfl) (by kernel_rfl) (by kernel_rfl) (fun _ _ _ h => h) (by first | exact Or.inl ⟨by rfl, (by intro u hSu; clear hSu; go_simp; try with_reducible rfl)⟩ | exact Or.inr ⟨by rfl, rfl⟩) kS ?_; (try simp only [Act.put, List.setIfInBounds_toArray, List.set_cons_zero, List.set_cons_succ])); (refine takeL (i := 6) (v := _) rfl (by kernel_rfl) (by kernel_rfl) (by kernel_rfl) (fun _ _ _ h => h) (by first | exact Or.inl ⟨by rfl, (by intro u hSu; clear hSu; go_simp; try with_reducible rfl)⟩ | exact Or.inr ⟨by rfl, rfl⟩) kS ?_; (try simp only [Act.put, List.setIfInBounds_toArray, List.set_cons_zero, List.set_cons_succ]))
          (refine takeL (i := 7) (v := _) rfl (by kernel_rfl) (by kernel_rfl) (by kernel_rfl) (fun _ _ _ h => h) (yield_load (g := g12) (i := 5 + j) rfl rfl rfl cB.out) kS ?_; (try simp only [Act.put, List.setIfInBounds_toArray, List.set_cons_zero, List.set_cons_succ]))
          (refine takeL (i := 8) (v := _) rfl (by kernel_rfl) (by kernel_rfl) (by kernel_rfl) (fun _ _ _ h => h) (by first | exact Or.inl ⟨by rfl, (by intro u hSu; clear hSu; go_simp; try with_reducible rfl)⟩ | exact Or.inr ⟨by rfl, rfl⟩) kS ?_; (try simp only [Act.put, List.setIfInBounds_toArray, List.set_cons_zero, List.set_cons_succ]))
          rw [hw.out]
          (refine takeL (i := 9) (v := _) rfl (by kernel_rfl) (by kernel_rfl) (by kernel_rfl) (fun _ _ _ h => h) (by first | exact Or.inl ⟨by rfl, (by intro u hSu; clear hSu; go_simp; try with_reducible rfl)⟩ | exact Or.inr ⟨by rfl, rfl⟩) kS ?_; (try simp only [Act.put, List.setIfInBounds_toArray, List.set_cons_zero, List.set_cons_succ]))
          refine wpAnyH_done (by kernel_rfl) ?_ _
          by_cases hlo : LO j = true
          · have hneg : av + bv < 0 := of_decide_eq_true (s1.symm.trans hlo)
            have hput := Lib.hid (hKp.out hlo)
            clear hKp hKk s1
            have h8j : ((8 * j : Nat) : Int) = 8 * (j : Int) := by omega
            rw [h8j] at hput
            go_wp2_with (first
              | ((with_reducible refine kn_build1 (vs := i64s [8 * (j : Int)]) E.out rfl rfl rfl ?_ Tryd.underlying73 inf_int ?_ ?_ ?_ ?_); (focus (rfl)); (focus (rfl)); (focus (omega)); (focus (omega)); clear E; intro gk u E0 hb0; have E := Lib.hid (E0.rest gk); clear E0 hb0)
              | (go_at_call 38; (with_reducible refine (hput.out _ _ _ _ _ ?hc ?hu ?hg).mono ?_); (case hc => assumption); (case hu => exact E.out.bs (by simp)); (case hg => exact E.out.see); clear hput; rintro e' w1 ⟨B1, m1, rfl, hm1, hB1, hb⟩; have E1 := Lib.hid (E.out.later hb); clear hb E; have E := E1; clear E1; have E1 := Lib.hid (E.out.new_bsi hB1); clear E hB1; have E := E1; clear E1)
              | ((with_reducible refine kn_load E.out rfl rfl rfl rfl ?_)) | ((with_reducible refine kn_load_if E.out rfl rfl rfl rfl ?_)) | ((with_reducible refine kn_loads E.out rfl rfl rfl ?_ ?_); (focus (first | rfl | (simp only [i64s_length, u8s_length]; first | rfl | assumption | omega)))) | ((with_reducible refine kn_loads_if E.out rfl rfl rfl ?_ ?_); (focus (first | rfl | (simp only [i64s_length, u8s_length]; first | rfl | assumption | omega)))) | ((with_reducible refine kn_stores E.out rfl rfl rfl rfl rfl ?_ ?_ ?_); (focus (first | exact ⟨rfl, rfl⟩ | (simp only [i64s_length, u8s_length]; refine ⟨?_, ?_⟩ <;> first | rfl | assumption | omega))); (focus (first | exact i64s_one _ | exact u8s_one _ | simp [Value.oneCell'])); clear E; intro u E0; have E := Lib.hid E0; clear E0))
            go_roundw
            case rel => exact ⟨j + 1, B1, m1, by omega, by go_num, rfl, hm1, E.out.part _ _ (by repeat (first | exact List.Sublist.refl _ | apply List.Sublist.cons_cons | apply List.Sublist.cons)) (by simp)⟩
            case measure => simp [intOf]; try omega
          · have hlf : LO j = false := by simpa using hlo
            have hneg : ¬ (av + bv < 0) := of_decide_eq_false (s1.symm.trans hlf)
            have hgt : ¬ (31 < av + bv) := by omega
            have hk := Lib.hid (hKk.out hlf)
            clear hKp hKk s1 hlo
            go_wp2_with (first | ((with_reducible refine kn_load E.out rfl rfl rfl rfl ?_)) | ((with_reducible refine kn_load_if E.out rfl rfl rfl rfl ?_)) | ((with_reducible refine kn_loads E.out rfl rfl rfl ?_ ?_); (focus (first | rfl | (simp only [i64s_length, u8s_length]; first | rfl | assumption | omega)))) | ((with_reducible refine kn_loads_if E.out rfl rfl rfl ?_ ?_); (focus (first | rfl | (simp only [i64s_length, u8s_length]; first | rfl | assumption | omega)))) | ((with_reducible refine kn_stores E.out rfl rfl rfl rfl rfl ?_ ?_ ?_); (focus (first | exact ⟨rfl, rfl⟩ | (simp only [i64s_length, u8s_length]; refine ⟨?_, ?_⟩ <;> first | rfl | assumption | omega))); (focus (first | exact i64s_one _ | exact u8s_one _ | simp [Value.oneCell'])); clear E; intro u E0; have E := Lib.hid E0; clear E0))
            go_roundw
            case rel => exact ⟨j + 1, B0, m0, by omega, by go_num, rfl, hm0, by rw [← hk.out]; exact E.out.part _ _ (by repeat (first | exact List.Sublist.refl _ | apply List.Sublist.cons_cons | apply List.Sublist.cons)) (by simp)⟩
            case measure => simp [intOf]; try omega
        · have hj2 : ¬ ((j : Int) < 2) := by omega
          obtain rfl : j = 2 := by omega
          have hna' := hna.out
          have hnb' := hnb.out
          clear KP KS PK KK hG0 hgl hkl hj hltj
          by_cases hb4 : bg = true
          · have h4 : 4 ≤ na + nb := of_decide_eq_true (hbg.out.symm.trans hb4)
            have hput := Lib.hid (PA.out hb4)
            clear PA PB hbg
            go_wp2_with (first
              | (go_at_call 41; (with_reducible refine (hR1.out _ _ _ ?ha).mono ?_); (case ha => exact E.out.bs (by simp)); clear hR1; rintro e w2 ⟨rfl, hb⟩; have E1 := Lib.hid (E.out.later hb); clear hb E; have E := E1; clear E1)
              | (go_at_call 41; (with_reducible refine (hR2.out _ _ _ ?ha).mono ?_); (case ha => exact E.out.bs (by simp)); clear hR2; rintro e w2 ⟨rfl, hb⟩; have E1 := Lib.hid (E.out.later hb); clear hb E; have E := E1; clear E1)
              | ((with_reducible refine kn_buildi E.out rfl rfl [16, 17, 18] Tryd.underlying73 hsz_int hz_int ?_ ?_ ?_ ?_ ?_); (focus (rfl)); (focus (omega)); (focus (omega)); (focus (rfl)); clear E; intro gl16 u E0 hg; have E := Lib.hid (E0.rest gl16); clear E0 hg)
              | (go_at_call 38; (with_reducible refine (hput.out _ _ _ _ _ ?hc ?hu ?hg).mono ?_); (case hc => assumption); (case hu => exact E.out.bs (by simp)); (case hg => exact E.out.see); clear hput; rintro e' w1 ⟨B1, m1, rfl, hm1, hB1, hb⟩; have E1 := Lib.hid (E.out.later hb); clear hb E; have E := E1; clear E1; have E1 := Lib.hid (E.out.new_bsi hB1); clear E hB1; have E := E1; clear E1)
              | ((with_reducible refine kn_load E.out rfl rfl rfl rfl ?_)) | ((with_reducible refine kn_load_if E.out rfl rfl rfl rfl ?_)) | ((with_reducible refine kn_loads E.out rfl rfl rfl ?_ ?_); (focus (first | rfl | (simp only [i64s_length, u8s_length]; first | rfl | assumption | omega)))) | ((with_reducible refine kn_loads_if E.out rfl rfl rfl ?_ ?_); (focus (first | rfl | (simp only [i64s_length, u8s_length]; first | rfl | assumption | omega)))) | ((with_reducible refine kn_stores E.out rfl rfl rfl rfl rfl ?_ ?_ ?_); (focus (first | exact ⟨rfl, rfl⟩ | (simp only [i64s_length, u8s_length]; refine ⟨?_, ?_⟩ <;> first | rfl | assumption | omega))); (focus (first | exact i64s_one _ | exact u8s_one _ | simp [Value.oneCell'])); clear E; intro u E0; have E := Lib.hid E0; clear E0))
            go_ret2
            exact ⟨B1, 8, m1, rfl, E.out.bs (by simp), hm1.1, hm1.2, E.out.bel⟩
          · have hbf : bg = false := by simpa using hb4
            have h4 : ¬ (4 ≤ na + nb) := of_decide_eq_false (hbg.out.symm.trans hbf)
            have hput := Lib.hid (PB.out hbf)
            clear PA PB hbg
            go_wp2_with (first
              | (go_at_call 41; (with_reducible refine (hR1.out _ _ _ ?ha).mono ?_); (case ha => exact E.out.bs (by simp)); clear hR1; rintro e w2 ⟨rfl, hb⟩; have E1 := Lib.hid (E.out.later hb); clear hb E; have E := E1; clear E1)
              | (go_at_call 41; (with_reducible refine (hR2.out _ _ _ ?ha).mono ?_); (case ha => exact E.out.bs (by simp)); clear hR2; rintro e w2 ⟨rfl, hb⟩; have E1 := Lib.hid (E.out.later hb); clear hb E; have E := E1; clear E1)
              | ((with_reducible refine kn_buildi E.out rfl rfl [21] Tryd.underlying73 hsz_int hz_int ?_ ?_ ?_ ?_ ?_); (focus (rfl)); (focus (omega)); (focus (omega)); (focus (rfl)); clear E; intro gl21 u E0 hg; have E := Lib.hid (E0.rest gl21); clear E0 hg)
              | (go_at_call 38; (with_reducible refine (hput.out _ _ _ _ _ ?hc ?hu ?hg).mono ?_); (case hc => assumption); (case hu => exact E.out.bs (by simp)); (case hg => exact E.out.see); clear hput; rintro e' w1 ⟨B1, m1, rfl, hm1, hB1, hb⟩; have E1 := Lib.hid (E.out.later hb); clear hb E; have E := E1; clear E1; have E1 := Lib.hid (E.out.new_bsi hB1); clear E hB1; have E := E1; clear E1)
              | ((with_reducible refine kn_load E.out rfl rfl rfl rfl ?_)) | ((with_reducible refine kn_load_if E.out rfl rfl rfl rfl ?_)) | ((with_reducible refine kn_loads E.out rfl rfl rfl ?_ ?_); (focus (first | rfl | (simp only [i64s_length, u8s_length]; first | rfl | assumption | omega)))) | ((with_reducible refine kn_loads_if E.out rfl rfl rfl ?_ ?_); (focus (first | rfl | (simp only [i64s_length, u8s_length]; first | rfl | assumption | omega)))) | ((with_reducible refine kn_stores E.out rfl rfl rfl rfl rfl ?_ ?_ ?_); (focus (first | exact ⟨rfl, rfl⟩ | (simp only [i64s_length, u8s_length]; refine ⟨?_, ?_⟩ <;> first | rfl | assumption | omega))); (focus (first | exact i64s_one _ | exact u8s_one _ | simp [Value.oneCell'])); clear E; intro u E0; have E := Lib.hid E0; clear E0))
            go_ret2
            exact ⟨B1, 8, m1, rfl, E.out.bs (by simp), hm1.1, hm1.2, E.out.bel⟩
set_option maxHeartbeats 16000000 in
set_option maxRecDepth 100000 in
theorem rlay_no0 (xo xh xv : List Int) (ho : xo.length = 3) (hh : xh.length = 3) (hv : xv.length = 3) (i0 : Nat) (hi0 : i0 < 3) (hok : ∀ i, i < 3 → ∀ c, c < 3 → i * 3 + c < i0 * 3 + 0 → okC (zsL xo xh xv) i c) (hbad : ¬ okC (zsL xo xh xv) i0 0) (w : World) :
    Calls Tryd.prog 15 #[arr xo, arr xh, arr xv] w (Laid w [] 1) := by
  have E := Lib.hid (Kn.start w)
  obtain ⟨a0, a1, a2, rfl⟩ := list3 xo ho
  obtain ⟨b0, b1, b2, rfl⟩ := list3 xh hh
  obtain ⟨c0, c1, c2, rfl⟩ := list3 xv hv
  rw [show zsL [a0, a1, a2] [b0, b1, b2] [c0, c1, c2] = [a0, a1, a2, b0, b1, b2, c0, c1, c2] from rfl] at hok hbad
  have hfi := Lib.hid (fill33 a0 a1 a2 b0 b1 b2 c0 c1 c2)
  have hzl := Lib.hid (show ([a0, a1, a2, b0, b1, b2, c0, c1, c2] : List Int).length = 9 from rfl)
  have HO := Lib.hid (fun i (hi : i < i0) (h3 : i < 3) => show (0 ≤ ([a0, a1, a2, b0, b1, b2, c0, c1, c2] : List Int).getD (i * 3 + 0) 0 ∧ ([a0, a1, a2, b0, b1, b2, c0, c1, c2] : List Int).getD (i * 3 + 0) 0 ≤ 63) ∧ (0 ≤ ([a0, a1, a2, b0, b1, b2, c0, c1, c2] : List Int).getD (i * 3 + 1) 0 ∧ ([a0, a1, a2, b0, b1, b2, c0, c1, c2] : List Int).getD (i * 3 + 1) 0 ≤ 127) ∧ (0 ≤ ([a0, a1, a2, b0, b1, b2, c0, c1, c2] : List Int).getD (i * 3 + 2) 0 ∧ ([a0, a1, a2, b0, b1, b2, c0, c1, c2] : List Int).getD (i * 3 + 2) 0 ≤ 63) from ⟨(okC0 _ i h3).1 (hok i h3 0 (by omega) (by omega)), (okC1 _ i h3).1 (hok i h3 1 (by omega) (by omega)), (okC2 _ i h3).1 (hok i h3 2 (by omega) (by omega))⟩)
  have GB := Lib.hid (fun h => hbad ((okC0 _ i0 hi0).2 h))
  clear hok hbad ho hh hv
  obtain ⟨ZS, hZS⟩ : ∃ z, ([a0, a1, a2, b0, b1, b2, c0, c1, c2] : List Int) = z := ⟨_, rfl⟩
  rw [hZS] at hfi hzl GB 
  simp only [hZS] at HO
  clear hZS
  go_enter Tryd.func15, Tryd.ntmps15
  go_wp2_with (first
    | ((with_reducible refine kn_buildm E.out rfl rfl (i64s ZS) [(0, arr [a0, a1, a2]), (1, arr [b0, b1, b2]), (2, arr [c0, c1, c2])] Tryd.underlying85 three_info ?h1 ?h2 hfi.out ?h3 ?_); (case h1 => omega); (case h2 => omega); (case h3 => simp only [List.map_toArray, List.map_cons, List.map_nil]; rfl); clear E; intro gz u E0 hg0; have E := Lib.hid E0; clear E0 hg0)
    | ((with_reducible refine kn_load E.out rfl rfl rfl rfl ?_)) | ((with_reducible refine kn_load_if E.out rfl rfl rfl rfl ?_)) | ((with_reducible refine kn_loads E.out rfl rfl rfl ?_ ?_); (focus (first | rfl | (simp only [i64s_length, u8s_length]; first | rfl | assumption | omega)))) | ((with_reducible refine kn_loads_if E.out rfl rfl rfl ?_ ?_); (focus (first | rfl | (simp only [i64s_length, u8s_length]; first | rfl | assumption | omega)))) | ((with_reducible refine kn_stores E.out rfl rfl rfl rfl rfl ?_ ?_ ?_); (focus (first | exact ⟨rfl, rfl⟩ | (simp only [i64s_length, u8s_length]; refine ⟨?_, ?_⟩ <;> first | rfl | assumption | omega))); (focus (first | exact i64s_one _ | exact u8s_one _ | simp [Value.oneCell'])); clear E; intro u E0; have E := Lib.hid E0; clear E0) | ((with_reducible refine kn_alloc (o := ⟨some 3, _, _, _, _, _⟩) E.out rfl rfl ?_); clear E; intro g3 u E0 hb0; have E := Lib.hid E0; clear E0 hb0) | ((with_reducible refine kn_box (o := ⟨some 3, _, _, _, _, _⟩) E.out rfl rfl rfl ?_); clear E; intro g3 u E0 hb0; have E := Lib.hid E0; clear E0 hb0) | ((with_reducible refine kn_box_int (o := ⟨some 3, _, _, _, _, _⟩) E.out rfl rfl rfl ?_); clear E; intro g3 u E0 hb0; have E := Lib.hid E0; clear E0 hb0) | ((with_reducible refine kn_box_slice (o := ⟨some 3, _, _, _, _, _⟩) E.out rfl rfl rfl ?_); clear E; intro g3 u E0 hb0; have E := Lib.hid E0; clear E0 hb0) | ((with_reducible refine kn_box_bool (o := ⟨some 3, _, _, _, _, _⟩) E.out rfl rfl rfl ?_); clear E; intro g3 u E0 hb0; have E := Lib.hid E0; clear E0 hb0) | ((with_reducible refine kn_box_func (o := ⟨some 3, _, _, _, _, _⟩) E.out rfl rfl rfl ?_); clear E; intro g3 u E0 hb0; have E := Lib.hid E0; clear E0 hb0) | ((with_reducible refine kn_alloc (o := ⟨some 4, _, _, _, _, _⟩) E.out rfl rfl ?_); clear E; intro g4 u E0 hb0; have E := Lib.hid E0; clear E0 hb0) | ((with_reducible refine kn_box (o := ⟨some 4, _, _, _, _, _⟩) E.out rfl rfl rfl ?_); clear E; intro g4 u E0 hb0; have E := Lib.hid E0; clear E0 hb0) | ((with_reducible refine kn_box_int (o := ⟨some 4, _, _, _, _, _⟩) E.out rfl rfl rfl ?_); clear E; intro g4 u E0 hb0; have E := Lib.hid E0; clear E0 hb0) | ((with_reducible refine kn_box_slice (o := ⟨some 4, _, _, _, _, _⟩) E.out rfl rfl rfl ?_); clear E; intro g4 u E0 hb0; have E := Lib.hid E0; clear E0 hb0) | ((with_reducible refine kn_box_bool (o := ⟨some 4, _, _, _, _, _⟩) E.out rfl rfl rfl ?_); clear E; intro g4 u E0 hb0; have E := Lib.hid E0; clear E0 hb0) | ((with_reducible refine kn_box_func (o := ⟨some 4, _, _, _, _, _⟩) E.out rfl rfl rfl ?_); clear E; intro g4 u E0 hb0; have E := Lib.hid E0; clear E0 hb0) | ((with_reducible refine kn_alloc (o := ⟨some 5, _, _, _, _, _⟩) E.out rfl rfl ?_); clear E; intro g5 u E0 hb0; have E := Lib.hid E0; clear E0 hb0) | ((with_reducible refine kn_box (o := ⟨some 5, _, _, _, _, _⟩) E.out rfl rfl rfl ?_); clear E; intro g5 u E0 hb0; have E := Lib.hid E0; clear E0 hb0) | ((with_reducible refine kn_box_int (o := ⟨some 5, _, _, _, _, _⟩) E.out rfl rfl rfl ?_); clear E; intro g5 u E0 hb0; have E := Lib.hid E0; clear E0 hb0) | ((with_reducible refine kn_box_slice (o := ⟨some 5, _, _, _, _, _⟩) E.out rfl rfl rfl ?_); clear E; intro g5 u E0 hb0; have E := Lib.hid E0; clear E0 hb0) | ((with_reducible refine kn_box_bool (o := ⟨some 5, _, _, _, _, _⟩) E.out rfl rfl rfl ?_); clear E; intro g5 u E0 hb0; have E := Lib.hid E0; clear E0 hb0) | ((with_reducible refine kn_box_func (o := ⟨some 5, _, _, _, _, _⟩) E.out rfl rfl rfl ?_); clear E; intro g5 u E0 hb0; have E := Lib.hid E0; clear E0 hb0))
  go_loopw [9] (fun ck wr => ∃ i : Nat, i ≤ i0 ∧ ck = .int .i64 (i : Int) ∧ Hid (Kn w [.row gz 34 (i64s ZS), .row g5 34 (i64s [c0, c1, c2]), .row g4 34 (i64s [b0, b1, b2]), .row g3 34 (i64s [a0, a1, a2])] [] wr)) (fun ck _ => 3 - (intOf ck).toNat)
  case atStart => exact ⟨0, by omega, rfl, E⟩
  case round =>
    clear E
    obtain ⟨i, hi, rfl, E⟩ := hrel
    have hi3 : (i : Int) < 3 := by omega
    have h3 : i < 3 := by omega
    by_cases hlt : i < i0
    · obtain ⟨ho0, ho1, ho2⟩ := HO.out i hlt h3
      have hz0 := i64s_get ZS (i * 3 + 0) (by have := hzl.out; omega)
      have hz1 := i64s_get ZS (i * 3 + 1) (by have := hzl.out; omega)
      have hz2 := i64s_get ZS (i * 3 + 2) (by have := hzl.out; omega)
      obtain ⟨y0, hy0⟩ : ∃ z, ZS.getD (i * 3 + 0) 0 = z := ⟨_, rfl⟩
      rw [hy0] at hz0 ho0
      replace hz0 := Lib.hid hz0
      obtain ⟨y1, hy1⟩ : ∃ z, ZS.getD (i * 3 + 1) 0 = z := ⟨_, rfl⟩
      rw [hy1] at hz1 ho1
      replace hz1 := Lib.hid hz1
      obtain ⟨y2, hy2⟩ : ∃ z, ZS.getD (i * 3 + 2) 0 = z := ⟨_, rfl⟩
      rw [hy2] at hz2 ho2
      replace hz2 := Lib.hid hz2
      have hI0 := Lib.hid (fun u => in_yes y0 0 63 ho0 u)
      have hI1 := Lib.hid (fun u => in_yes y1 0 127 ho1 u)
      have hI2 := Lib.hid (fun u => in_yes y2 0 63 ho2 u)
      clear HO GB 
      go_wp2_with (first
        | ((with_reducible refine kn_load (g := gz) (i := i * 3 + 0) E.out rfl rfl rfl hz0.out ?_)) | ((with_reducible refine kn_load_if (g := gz) (i := i * 3 + 0) E.out rfl rfl rfl hz0.out ?_))
        | ((with_reducible refine kn_load (g := gz) (i := i * 3 + 1) E.out rfl rfl rfl hz1.out ?_)) | ((with_reducible refine kn_load_if (g := gz) (i := i * 3 + 1) E.out rfl rfl rfl hz1.out ?_))
        | ((with_reducible refine kn_load (g := gz) (i := i * 3 + 2) E.out rfl rfl rfl hz2.out ?_)) | ((with_reducible refine kn_load_if (g := gz) (i := i * 3 + 2) E.out rfl rfl rfl hz2.out ?_))
        | (go_at_call 37; (with_reducible refine (hI0.out _).mono ?_); clear hI0; rintro e w1 ⟨rfl, rfl⟩)
        | (go_at_call 37; (with_reducible refine (hI1.out _).mono ?_); clear hI1; rintro e w1 ⟨rfl, rfl⟩)
        | (go_at_call 37; (with_reducible refine (hI2.out _).mono ?_); clear hI2; rintro e w1 ⟨rfl, rfl⟩)
        | ((with_reducible refine kn_load E.out rfl rfl rfl rfl ?_)) | ((with_reducible refine kn_load_if E.out rfl rfl rfl rfl ?_)) | ((with_reducible refine kn_loads E.out rfl rfl rfl ?_ ?_); (focus (first | rfl | (simp only [i64s_length, u8s_length]; first | rfl | assumption | omega)))) | ((with_reducible refine kn_loads_if E.out rfl rfl rfl ?_ ?_); (focus (first | rfl | (simp only [i64s_length, u8s_length]; first | rfl | assumption | omega)))) | ((with_reducible refine kn_stores E.out rfl rfl rfl rfl rfl ?_ ?_ ?_); (focus (first | exact ⟨rfl, rfl⟩ | (simp only [i64s_length, u8s_length]; refine ⟨?_, ?_⟩ <;> first | rfl | assumption | omega))); (focus (first | exact i64s_one _ | exact u8s_one _ | simp [Value.oneCell'])); clear E; intro u E0; have E := Lib.hid E0; clear E0))
      go_roundw
      case rel => exact ⟨i + 1, by omega, by go_num, E⟩
      case measure => simp [intOf]; try omega
    · obtain rfl : i = i0 := by omega
      have hz0 := i64s_get ZS (i * 3 + 0) (by have := hzl.out; omega)
      have ho0 := GB.out
      obtain ⟨y0, hy0⟩ : ∃ z, ZS.getD (i * 3 + 0) 0 = z := ⟨_, rfl⟩
      rw [hy0] at hz0 ho0
      replace hz0 := Lib.hid hz0
      have hI0 := Lib.hid (fun u => in_no y0 0 63 ho0 u)
      clear HO GB  ho0
      go_wp2_with (first
        | ((with_reducible refine kn_load (g := gz) (i := i * 3 + 0) E.out rfl rfl rfl hz0.out ?_)) | ((with_reducible refine kn_load_if (g := gz) (i := i * 3 + 0) E.out rfl rfl rfl hz0.out ?_))
        | (go_at_call 37; (with_reducible refine (hI0.out _).mono ?_); clear hI0; rintro e w1 ⟨rfl, rfl⟩)
        | ((with_reducible refine kn_load E.out rfl rfl rfl rfl ?_)) | ((with_reducible refine kn_load_if E.out rfl rfl rfl rfl ?_)) | ((with_reducible refine kn_loads E.out rfl rfl rfl ?_ ?_); (focus (first | rfl | (simp only [i64s_length, u8s_length]; first | rfl | assumption | omega)))) | ((with_reducible refine kn_loads_if E.out rfl rfl rfl ?_ ?_); (focus (first | rfl | (simp only [i64s_length, u8s_length]; first | rfl | assumption | omega)))) | ((with_reducible refine kn_stores E.out rfl rfl rfl rfl rfl ?_ ?_ ?_); (focus (first | exact ⟨rfl, rfl⟩ | (simp only [i64s_length, u8s_length]; refine ⟨?_, ?_⟩ <;> first | rfl | assumption | omega))); (focus (first | exact i64s_one _ | exact u8s_one _ | simp [Value.oneCell'])); clear E; intro u E0; have E := Lib.hid E0; clear E0))
      go_ret2
      exact ⟨none, 0, 0, rfl, ⟨rfl, by simp, fun h => absurd h (by omega)⟩, by omega, by omega, E.out.bel⟩
set_option maxHeartbeats 16000000 in
set_option maxRecDepth 100000 in
theorem rlay_no1 (xo xh xv : List Int) (ho : xo.length = 3) (hh : xh.length = 3) (hv : xv.length = 3) (i0 : Nat) (hi0 : i0 < 3) (hok : ∀ i, i < 3 → ∀ c, c < 3 → i * 3 + c < i0 * 3 + 1 → okC (zsL xo xh xv) i c) (hbad : ¬ okC (zsL xo xh xv) i0 1) (w : World) :
    Calls Tryd.prog 15 #[arr xo, arr xh, arr xv] w (Laid w [] 1) := by
  have E := Lib.hid (Kn.start w)
  obtain ⟨a0, a1, a2, rfl⟩ := list3 xo ho
  obtain ⟨b0, b1, b2, rfl⟩ := list3 xh hh
  obtain ⟨c0, c1, c2, rfl⟩ := list3 xv hv
  rw [show zsL [a0, a1, a2] [b0, b1, b2] [c0, c1, c2] = [a0, a1, a2, b0, b1, b2, c0, c1, c2] from rfl] at hok hbad
  have hfi := Lib.hid (fill33 a0 a1 a2 b0 b1 b2 c0 c1 c2)
  have hzl := Lib.hid (show ([a0, a1, a2, b0, b1, b2, c0, c1, c2] : List Int).length = 9 from rfl)
  have HO := Lib.hid (fun i (hi : i < i0) (h3 : i < 3) => show (0 ≤ ([a0, a1, a2, b0, b1, b2, c0, c1, c2] : List Int).getD (i * 3 + 0) 0 ∧ ([a0, a1, a2, b0, b1, b2, c0, c1, c2] : List Int).getD (i * 3 + 0) 0 ≤ 63) ∧ (0 ≤ ([a0, a1, a2, b0, b1, b2, c0, c1, c2] : List Int).getD (i * 3 + 1) 0 ∧ ([a0, a1, a2, b0, b1, b2, c0, c1, c2] : List Int).getD (i * 3 + 1) 0 ≤ 127) ∧ (0 ≤ ([a0, a1, a2, b0, b1, b2, c0, c1, c2] : List Int).getD (i * 3 + 2) 0 ∧ ([a0, a1, a2, b0, b1, b2, c0, c1, c2] : List Int).getD (i * 3 + 2) 0 ≤ 63) from ⟨(okC0 _ i h3).1 (hok i h3 0 (by omega) (by omega)), (okC1 _ i h3).1 (hok i h3 1 (by omega) (by omega)), (okC2 _ i h3).1 (hok i h3 2 (by omega) (by omega))⟩)
  have G0 := Lib.hid ((okC0 _ i0 hi0).1 (hok i0 hi0 0 (by omega) (by omega)))
  have GB := Lib.hid (fun h => hbad ((okC1 _ i0 hi0).2 h))
  clear hok hbad ho hh hv
  obtain ⟨ZS, hZS⟩ : ∃ z, ([a0, a1, a2, b0, b1, b2, c0, c1, c2] : List Int) = z := ⟨_, rfl⟩
  rw [hZS] at hfi hzl GB G0
  simp only [hZS] at HO
  clear hZS
  go_enter Tryd.func15, Tryd.ntmps15
  go_wp2_with (first
    | ((with_reducible refine kn_buildm E.out rfl rfl (i64s ZS) [(0, arr [a0, a1, a2]), (1, arr [b0, b1, b2]), (2, arr [c0, c1, c2])] Tryd.underlying85 three_info ?h1 ?h2 hfi.out ?h3 ?_); (case h1 => omega); (case h2 => omega); (case h3 => simp only [List.map_toArray, List.map_cons, List.map_nil]; rfl); clear E; intro gz u E0 hg0; have E := Lib.hid E0; clear E0 hg0)
    | ((with_reducible refine kn_load E.out rfl rfl rfl rfl ?_)) | ((with_reducible refine kn_load_if E.out rfl rfl rfl rfl ?_)) | ((with_reducible refine kn_loads E.out rfl rfl rfl ?_ ?_); (focus (first | rfl | (simp only [i64s_length, u8s_length]; first | rfl | assumption | omega)))) | ((with_reducible refine kn_loads_if E.out rfl rfl rfl ?_ ?_); (focus (first | rfl | (simp only [i64s_length, u8s_length]; first | rfl | assumption | omega)))) | ((with_reducible refine kn_stores E.out rfl rfl rfl rfl rfl ?_ ?_ ?_); (focus (first | exact ⟨rfl, rfl⟩ | (simp only [i64s_length, u8s_length]; refine ⟨?_, ?_⟩ <;> first | rfl | assumption | omega))); (focus (first | exact i64s_one _ | exact u8s_one _ | simp [Value.oneCell'])); clear E; intro u E0; have E := Lib.hid E0; clear E0) | ((with_reducible refine kn_alloc (o := ⟨some 3, _, _, _, _, _⟩) E.out rfl rfl ?_); clear E; intro g3 u E0 hb0; have E := Lib.hid E0; clear E0 hb0) | ((with_reducible refine kn_box (o := ⟨some 3, _, _, _, _, _⟩) E.out rfl rfl rfl ?_); clear E; intro g3 u E0 hb0; have E := Lib.hid E0; clear E0 hb0) | ((with_reducible refine kn_box_int (o := ⟨some 3, _, _, _, _, _⟩) E.out rfl rfl rfl ?_); clear E; intro g3 u E0 hb0; have E := Lib.hid E0; clear E0 hb0) | ((with_reducible refine kn_box_slice (o := ⟨some 3, _, _, _, _, _⟩) E.out rfl rfl rfl ?_); clear E; intro g3 u E0 hb0; have E := Lib.hid E0; clear E0 hb0) | ((with_reducible refine kn_box_bool (o := ⟨some 3, _, _, _, _, _⟩) E.out rfl rfl rfl ?_); clear E; intro g3 u E0 hb0; have E := Lib.hid E0; clear E0 hb0) | ((with_reducible refine kn_box_func (o := ⟨some 3, _, _, _, _, _⟩) E.out rfl rfl rfl ?_); clear E; intro g3 u E0 hb0; have E := Lib.hid E0; clear E0 hb0) | ((with_reducible refine kn_alloc (o := ⟨some 4, _, _, _, _, _⟩) E.out rfl rfl ?_); clear E; intro g4 u E0 hb0; have E := Lib.hid E0; clear E0 hb0) | ((with_reducible refine kn_box (o := ⟨some 4, _, _, _, _, _⟩) E.out rfl rfl rfl ?_); clear E; intro g4 u E0 hb0; have E := Lib.hid E0; clear E0 hb0) | ((with_reducible refine kn_box_int (o := ⟨some 4, _, _, _, _, _⟩) E.out rfl rfl rfl ?_); clear E; intro g4 u E0 hb0; have E := Lib.hid E0; clear E0 hb0) | ((with_reducible refine kn_box_slice (o := ⟨some 4, _, _, _, _, _⟩) E.out rfl rfl rfl ?_); clear E; intro g4 u E0 hb0; have E := Lib.hid E0; clear E0 hb0) | ((with_reducible refine kn_box_bool (o := ⟨some 4, _, _, _, _, _⟩) E.out rfl rfl rfl ?_); clear E; intro g4 u E0 hb0; have E := Lib.hid E0; clear E0 hb0) | ((with_reducible refine kn_box_func (o := ⟨some 4, _, _, _, _, _⟩) E.out rfl rfl rfl ?_); clear E; intro g4 u E0 hb0; have E := Lib.hid E0; clear E0 hb0) | ((with_reducible refine kn_alloc (o := ⟨some 5, _, _, _, _, _⟩) E.out rfl rfl ?_); clear E; intro g5 u E0 hb0; have E := Lib.hid E0; clear E0 hb0) | ((with_reducible refine kn_box (o := ⟨some 5, _, _, _, _, _⟩) E.out rfl rfl rfl ?_); clear E; intro g5 u E0 hb0; have E := Lib.hid E0; clear E0 hb0) | ((with_reducible refine kn_box_int (o := ⟨some 5, _, _, _, _, _⟩) E.out rfl rfl rfl ?_); clear E; intro g5 u E0 hb0; have E := Lib.hid E0; clear E0 hb0) | ((with_reducible refine kn_box_slice (o := ⟨some 5, _, _, _, _, _⟩) E.out rfl rfl rfl ?_); clear E; intro g5 u E0 hb0; have E := Lib.hid E0; clear E0 hb0) | ((with_reducible refine kn_box_bool (o := ⟨some 5, _, _, _, _, _⟩) E.out rfl rfl rfl ?_); clear E; intro g5 u E0 hb0; have E := Lib.hid E0; clear E0 hb0) | ((with_reducible refine kn_box_func (o := ⟨some 5, _, _, _, _, _⟩) E.out rfl rfl rfl ?_); clear E; intro g5 u E0 hb0; have E := Lib.hid E0; clear E0 hb0))
  go_loopw [9] (fun ck wr => ∃ i : Nat, i ≤ i0 ∧ ck = .int .i64 (i : Int) ∧ Hid (Kn w [.row gz 34 (i64s ZS), .row g5 34 (i64s [c0, c1, c2]), .row g4 34 (i64s [b0, b1, b2]), .row g3 34 (i64s [a0, a1, a2])] [] wr)) (fun ck _ => 3 - (intOf ck).toNat)
  case atStart => exact ⟨0, by omega, rfl, E⟩
  case round =>
    clear E
    obtain ⟨i, hi, rfl, E⟩ := hrel
    have hi3 : (i : Int) < 3 := by omega
    have h3 : i < 3 := by omega
    by_cases hlt : i < i0
    · obtain ⟨ho0, ho1, ho2⟩ := HO.out i hlt h3
      have hz0 := i64s_get ZS (i * 3 + 0) (by have := hzl.out; omega)
      have hz1 := i64s_get ZS (i * 3 + 1) (by have := hzl.out; omega)
      have hz2 := i64s_get ZS (i * 3 + 2) (by have := hzl.out; omega)
      obtain ⟨y0, hy0⟩ : ∃ z, ZS.getD (i * 3 + 0) 0 = z := ⟨_, rfl⟩
      rw [hy0] at hz0 ho0
      replace hz0 := Lib.hid hz0
      obtain ⟨y1, hy1⟩ : ∃ z, ZS.getD (i * 3 + 1) 0 = z := ⟨_, rfl⟩
      rw [hy1] at hz1 ho1
      replace hz1 := Lib.hid hz1
      obtain ⟨y2, hy2⟩ : ∃ z, ZS.getD (i * 3 + 2) 0 = z := ⟨_, rfl⟩
      rw [hy2] at hz2 ho2
      replace hz2 := Lib.hid hz2
      have hI0 := Lib.hid (fun u => in_yes y0 0 63 ho0 u)
      have hI1 := Lib.hid (fun u => in_yes y1 0 127 ho1 u)
      have hI2 := Lib.hid (fun u => in_yes y2 0 63 ho2 u)
      clear HO GB G0
      go_wp2_with (first
        | ((with_reducible refine kn_load (g := gz) (i := i * 3 + 0) E.out rfl rfl rfl hz0.out ?_)) | ((with_reducible refine kn_load_if (g := gz) (i := i * 3 + 0) E.out rfl rfl rfl hz0.out ?_))
        | ((with_reducible refine kn_load (g := gz) (i := i * 3 + 1) E.out rfl rfl rfl hz1.out ?_)) | ((with_reducible refine kn_load_if (g := gz) (i := i * 3 + 1) E.out rfl rfl rfl hz1.out ?_))
        | ((with_reducible refine kn_load (g := gz) (i := i * 3 + 2) E.out rfl rfl rfl hz2.out ?_)) | ((with_reducible refine kn_load_if (g := gz) (i := i * 3 + 2) E.out rfl rfl rfl hz2.out ?_))
        | (go_at_call 37; (with_reducible refine (hI0.out _).mono ?_); clear hI0; rintro e w1 ⟨rfl, rfl⟩)
        | (go_at_call 37; (with_reducible refine (hI1.out _).mono ?_); clear hI1; rintro e w1 ⟨rfl, rfl⟩)
        | (go_at_call 37; (with_reducible refine (hI2.out _).mono ?_); clear hI2; rintro e w1 ⟨rfl, rfl⟩)
        | ((with_reducible refine kn_load E.out rfl rfl rfl rfl ?_)) | ((with_reducible refine kn_load_if E.out rfl rfl rfl rfl ?_)) | ((with_reducible refine kn_loads E.out rfl rfl rfl ?_ ?_); (focus (first | rfl | (simp only [i64s_length, u8s_length]; first | rfl | assumption | omega)))) | ((with_reducible refine kn_loads_if E.out rfl rfl rfl ?_ ?_); (focus (first | rfl | (simp only [i64s_length, u8s_length]; first | rfl | assumption | omega)))) | ((with_reducible refine kn_stores E.out rfl rfl rfl rfl rfl ?_ ?_ ?_); (focus (first | exact ⟨rfl, rfl⟩ | (simp only [i64s_length, u8s_length]; refine ⟨?_, ?_⟩ <;> first | rfl | assumption | omega))); (focus (first | exact i64s_one _ | exact u8s_one _ | simp [Value.oneCell'])); clear E; intro u E0; have E := Lib.hid E0; clear E0))
      go_roundw
      case rel => exact ⟨i + 1, by omega, by go_num, E⟩
      case measure => simp [intOf]; try omega
    · obtain rfl : i = i0 := by omega
      have hz0 := i64s_get ZS (i * 3 + 0) (by have := hzl.out; omega)
      have hz1 := i64s_get ZS (i * 3 + 1) (by have := hzl.out; omega)
      have ho0 := G0.out
      have ho1 := GB.out
      obtain ⟨y0, hy0⟩ : ∃ z, ZS.getD (i * 3 + 0) 0 = z := ⟨_, rfl⟩
      rw [hy0] at hz0 ho0
      replace hz0 := Lib.hid hz0
      obtain ⟨y1, hy1⟩ : ∃ z, ZS.getD (i * 3 + 1) 0 = z := ⟨_, rfl⟩
      rw [hy1] at hz1 ho1
      replace hz1 := Lib.hid hz1
      have hI0 := Lib.hid (fun u => in_yes y0 0 63 ho0 u)
      have hI1 := Lib.hid (fun u => in_no y1 0 127 ho1 u)
      clear HO GB G0 ho1
      go_wp2_with (first
        | ((with_reducible refine kn_load (g := gz) (i := i * 3 + 0) E.out rfl rfl rfl hz0.out ?_)) | ((with_reducible refine kn_load_if (g := gz) (i := i * 3 + 0) E.out rfl rfl rfl hz0.out ?_))
        | ((with_reducible refine kn_load (g := gz) (i := i * 3 + 1) E.out rfl rfl rfl hz1.out ?_)) | ((with_reducible refine kn_load_if (g := gz) (i := i * 3 + 1) E.out rfl rfl rfl hz1.out ?_))
        | (go_at_call 37; (with_reducible refine (hI0.out _).mono ?_); clear hI0; rintro e w1 ⟨rfl, rfl⟩)
        | (go_at_call 37; (with_reducible refine (hI1.out _).mono ?_); clear hI1; rintro e w1 ⟨rfl, rfl⟩)
        | ((with_reducible refine kn_load E.out rfl rfl rfl rfl ?_)) | ((with_reducible refine kn_load_if E.out rfl rfl rfl rfl ?_)) | ((with_reducible refine kn_loads E.out rfl rfl rfl ?_ ?_); (focus (first | rfl | (simp only [i64s_length, u8s_length]; first | rfl | assumption | omega)))) | ((with_reducible refine kn_loads_if E.out rfl rfl rfl ?_ ?_); (focus (first | rfl | (simp only [i64s_length, u8s_length]; first | rfl | assumption | omega)))) | ((with_reducible refine kn_stores E.out rfl rfl rfl rfl rfl ?_ ?_ ?_); (focus (first | exact ⟨rfl, rfl⟩ | (simp only [i64s_length, u8s_length]; refine ⟨?_, ?_⟩ <;> first | rfl | assumption | omega))); (focus (first | exact i64s_one _ | exact u8s_one _ | simp [Value.oneCell'])); clear E; intro u E0; have E := Lib.hid E0; clear E0))
      go_ret2
      exact ⟨none, 0, 0, rfl, ⟨rfl, by simp, fun h => absurd h (by omega)⟩, by omega, by omega, E.out.bel⟩
set_option maxHeartbeats 16000000 in
set_option maxRecDepth 100000 in
theorem rlay_no2 (xo xh xv : List Int) (ho : xo.length = 3) (hh : xh.length = 3) (hv : xv.length = 3) (i0 : Nat) (hi0 : i0 < 3) (hok : ∀ i, i < 3 → ∀ c, c < 3 → i * 3 + c < i0 * 3 + 2 → okC (zsL xo xh xv) i c) (hbad : ¬ okC (zsL xo xh xv) i0 2) (w : World) :
    Calls Tryd.prog 15 #[arr xo, arr xh, arr xv] w (Laid w [] 1) := by
  have E := Lib.hid (Kn.start w)
  obtain ⟨a0, a1, a2, rfl⟩ := list3 xo ho
  obtain ⟨b0, b1, b2, rfl⟩ := list3 xh hh
  obtain ⟨c0, c1, c2, rfl⟩ := list3 xv hv
  rw [show zsL [a0, a1, a2] [b0, b1, b2] [c0, c1, c2] = [a0, a1, a2, b0, b1, b2, c0, c1, c2] from rfl] at hok hbad
  have hfi := Lib.hid (fill33 a0 a1 a2 b0 b1 b2 c0 c1 c2)
  have hzl := Lib.hid (show ([a0, a1, a2, b0, b1, b2, c0, c1, c2] : List Int).length = 9 from rfl)
  have HO := Lib.hid (fun i (hi : i < i0) (h3 : i < 3) => show (0 ≤ ([a0, a1, a2, b0, b1, b2, c0, c1, c2] : List Int).getD (i * 3 + 0) 0 ∧ ([a0, a1, a2, b0, b1, b2, c0, c1, c2] : List Int).getD (i * 3 + 0) 0 ≤ 63) ∧ (0 ≤ ([a0, a1, a2, b0, b1, b2, c0, c1, c2] : List Int).getD (i * 3 + 1) 0 ∧ ([a0, a1, a2, b0, b1, b2, c0, c1, c2] : List Int).getD (i * 3 + 1) 0 ≤ 127) ∧ (0 ≤ ([a0, a1, a2, b0, b1, b2, c0, c1, c2] : List Int).getD (i * 3 + 2) 0 ∧ ([a0, a1, a2, b0, b1, b2, c0, c1, c2] : List Int).getD (i * 3 + 2) 0 ≤ 63) from ⟨(okC0 _ i h3).1 (hok i h3 0 (by omega) (by omega)), (okC1 _ i h3).1 (hok i h3 1 (by omega) (by omega)), (okC2 _ i h3).1 (hok i h3 2 (by omega) (by omega))⟩)
  have G0 := Lib.hid ((okC0 _ i0 hi0).1 (hok i0 hi0 0 (by omega) (by omega)))
  have G1 := Lib.hid ((okC1 _ i0 hi0).1 (hok i0 hi0 1 (by omega) (by omega)))
  have GB := Lib.hid (fun h => hbad ((okC2 _ i0 hi0).2 h))
  clear hok hbad ho hh hv
  obtain ⟨ZS, hZS⟩ : ∃ z, ([a0, a1, a2, b0, b1, b2, c0, c1, c2] : List Int) = z := ⟨_, rfl⟩
  rw [hZS] at hfi hzl GB G0 G1
  simp only [hZS] at HO
  clear hZS
  go_enter Tryd.func15, Tryd.ntmps15
  go_wp2_with (first
    | ((with_reducible refine kn_buildm E.out rfl rfl (i64s ZS) [(0, arr [a0, a1, a2]), (1, arr [b0, b1, b2]), (2, arr [c0, c1, c2])] Tryd.underlying85 three_info ?h1 ?h2 hfi.out ?h3 ?_); (case h1 => omega); (case h2 => omega); (case h3 => simp only [List.map_toArray, List.map_cons, List.map_nil]; rfl); clear E; intro gz u E0 hg0; have E := Lib.hid E0; clear E0 hg0)
    | ((with_reducible refine kn_load E.out rfl rfl rfl rfl ?_)) | ((with_reducible refine kn_load_if E.out rfl rfl rfl rfl ?_)) | ((with_reducible refine kn_loads E.out rfl rfl rfl ?_ ?_); (focus (first | rfl | (simp only [i64s_length, u8s_length]; first | rfl | assumption | omega)))) | ((with_reducible refine kn_loads_if E.out rfl rfl rfl ?_ ?_); (focus (first | rfl | (simp only [i64s_length, u8s_length]; first | rfl | assumption | omega)))) | ((with_reducible refine kn_stores E.out rfl rfl rfl rfl rfl ?_ ?_ ?_); (focus (first | exact ⟨rfl, rfl⟩ | (simp only [i64s_length, u8s_length]; refine ⟨?_, ?_⟩ <;> first | rfl | assumption | omega))); (focus (first | exact i64s_one _ | exact u8s_one _ | simp [Value.oneCell'])); clear E; intro u E0; have E := Lib.hid E0; clear E0) | ((with_reducible refine kn_alloc (o := ⟨some 3, _, _, _, _, _⟩) E.out rfl rfl ?_); clear E; intro g3 u E0 hb0; have E := Lib.hid E0; clear E0 hb0) | ((with_reducible refine kn_box (o := ⟨some 3, _, _, _, _, _⟩) E.out rfl rfl rfl ?_); clear E; intro g3 u E0 hb0; have E := Lib.hid E0; clear E0 hb0) | ((with_reducible refine kn_box_int (o := ⟨some 3, _, _, _, _, _⟩) E.out rfl rfl rfl ?_); clear E; intro g3 u E0 hb0; have E := Lib.hid E0; clear E0 hb0) | ((with_reducible refine kn_box_slice (o := ⟨some 3, _, _, _, _, _⟩) E.out rfl rfl rfl ?_); clear E; intro g3 u E0 hb0; have E := Lib.hid E0; clear E0 hb0) | ((with_reducible refine kn_box_bool (o := ⟨some 3, _, _, _, _, _⟩) E.out rfl rfl rfl ?_); clear E; intro g3 u E0 hb0; have E := Lib.hid E0; clear E0 hb0) | ((with_reducible refine kn_box_func (o := ⟨some 3, _, _, _, _, _⟩) E.out rfl rfl rfl ?_); clear E; intro g3 u E0 hb0; have E := Lib.hid E0; clear E0 hb0) | ((with_reducible refine kn_alloc (o := ⟨some 4, _, _, _, _, _⟩) E.out rfl rfl ?_); clear E; intro g4 u E0 hb0; have E := Lib.hid E0; clear E0 hb0) | ((with_reducible refine kn_box (o := ⟨some 4, _, _, _, _, _⟩) E.out rfl rfl rfl ?_); clear E; intro g4 u E0 hb0; have E := Lib.hid E0; clear E0 hb0) | ((with_reducible refine kn_box_int (o := ⟨some 4, _, _, _, _, _⟩) E.out rfl rfl rfl ?_); clear E; intro g4 u E0 hb0; have E := Lib.hid E0; clear E0 hb0) | ((with_reducible refine kn_box_slice (o := ⟨some 4, _, _, _, _, _⟩) E.out rfl rfl rfl ?_); clear E; intro g4 u E0 hb0; have E := Lib.hid E0; clear E0 hb0) | ((with_reducible refine kn_box_bool (o := ⟨some 4, _, _, _, _, _⟩) E.out rfl rfl rfl ?_); clear E; intro g4 u E0 hb0; have E := Lib.hid E0; clear E0 hb0) | ((with_reducible refine kn_box_func (o := ⟨some 4, _, _, _, _, _⟩) E.out rfl rfl rfl ?_); clear E; intro g4 u E0 hb0; have E := Lib.hid E0; clear E0 hb0) | ((with_reducible refine kn_alloc (o := ⟨some 5, _, _, _, _, _⟩) E.out rfl rfl ?_); clear E; intro g5 u E0 hb0; have E := Lib.hid E0; clear E0 hb0) | ((with_reducible refine kn_box (o := ⟨some 5, _, _, _, _, _⟩) E.out rfl rfl rfl ?_); clear E; intro g5 u E0 hb0; have E := Lib.hid E0; clear E0 hb0) | ((with_reducible refine kn_box_int (o := ⟨some 5, _, _, _, _, _⟩) E.out rfl rfl rfl ?_); clear E; intro g5 u E0 hb0; have E := Lib.hid E0; clear E0 hb0) | ((with_reducible refine kn_box_slice (o := ⟨some 5, _, _, _, _, _⟩) E.out rfl rfl rfl ?_); clear E; intro g5 u E0 hb0; have E := Lib.hid E0; clear E0 hb0) | ((with_reducible refine kn_box_bool (o := ⟨some 5, _, _, _, _, _⟩) E.out rfl rfl rfl ?_); clear E; intro g5 u E0 hb0; have E := Lib.hid E0; clear E0 hb0) | ((with_reducible refine kn_box_func (o := ⟨some 5, _, _, _, _, _⟩) E.out rfl rfl rfl ?_); clear E; intro g5 u E0 hb0; have E := Lib.hid E0; clear E0 hb0))
  go_loopw [9] (fun ck wr => ∃ i : Nat, i ≤ i0 ∧ ck = .int .i64 (i : Int) ∧ Hid (Kn w [.row gz 34 (i64s ZS), .row g5 34 (i64s [c0, c1, c2]), .row g4 34 (i64s [b0, b1, b2]), .row g3 34 (i64s [a0, a1, a2])] [] wr)) (fun ck _ => 3 - (intOf ck).toNat)
  case atStart => exact ⟨0, by omega, rfl, E⟩
  case round =>
    clear E
    obtain ⟨i, hi, rfl, E⟩ := hrel
    have hi3 : (i : Int) < 3 := by omega
    have h3 : i < 3 := by omega
    by_cases hlt : i < i0
    · obtain ⟨ho0, ho1, ho2⟩ := HO.out i hlt h3
      have hz0 := i64s_get ZS (i * 3 + 0) (by have := hzl.out; omega)
      have hz1 := i64s_get ZS (i * 3 + 1) (by have := hzl.out; omega)
      have hz2 := i64s_get ZS (i * 3 + 2) (by have := hzl.out; omega)
      obtain ⟨y0, hy0⟩ : ∃ z, ZS.getD (i * 3 + 0) 0 = z := ⟨_, rfl⟩
      rw [hy0] at hz0 ho0
      replace hz0 := Lib.hid hz0
      obtain ⟨y1, hy1⟩ : ∃ z, ZS.getD (i * 3 + 1) 0 = z := ⟨_, rfl⟩
      rw [hy1] at hz1 ho1
      replace hz1 := Lib.hid hz1
      obtain ⟨y2, hy2⟩ : ∃ z, ZS.getD (i * 3 + 2) 0 = z := ⟨_, rfl⟩
      rw [hy2] at hz2 ho2
      replace hz2 := Lib.hid hz2
      have hI0 := Lib.hid (fun u => in_yes y0 0 63 ho0 u)
      have hI1 := Lib.hid (fun u => in_yes y1 0 127 ho1 u)
      have hI2 := Lib.hid (fun u => in_yes y2 0 63 ho2 u)
      clear HO GB G0 G1
      go_wp2_with (first
        | ((with_reducible refine kn_load (g := gz) (i := i * 3 + 0) E.out rfl rfl rfl hz0.out ?_)) | ((with_reducible refine kn_load_if (g := gz) (i := i * 3 + 0) E.out rfl rfl rfl hz0.out ?_))
        | ((with_reducible refine kn_load (g := gz) (i := i * 3 + 1) E.out rfl rfl rfl hz1.out ?_)) | ((with_reducible refine kn_load_if (g := gz) (i := i * 3 + 1) E.out rfl rfl rfl hz1.out ?_))
        | ((with_reducible refine kn_load (g := gz) (i := i * 3 + 2) E.out rfl rfl rfl hz2.out ?_)) | ((with_reducible refine kn_load_if (g := gz) (i := i * 3 + 2) E.out rfl rfl rfl hz2.out ?_))
        | (go_at_call 37; (with_reducible refine (hI0.out _).mono ?_); clear hI0; rintro e w1 ⟨rfl, rfl⟩)
        | (go_at_call 37; (with_reducible refine (hI1.out _).mono ?_); clear hI1; rintro e w1 ⟨rfl, rfl⟩)
        | (go_at_call 37; (with_reducible refine (hI2.out _).mono ?_); clear hI2; rintro e w1 ⟨rfl, rfl⟩)
        | ((with_reducible refine kn_load E.out rfl rfl rfl rfl ?_)) | ((with_reducible refine kn_load_if E.out rfl rfl rfl rfl ?_)) | ((with_reducible refine kn_loads E.out rfl rfl rfl ?_ ?_); (focus (first | rfl | (simp only [i64s_length, u8s_length]; first | rfl | assumption | omega)))) | ((with_reducible refine kn_loads_if E.out rfl rfl rfl ?_ ?_); (focus (first | rfl | (simp only [i64s_length, u8s_length]; first | rfl | assumption | omega)))) | ((with_reducible refine kn_stores E.out rfl rfl rfl rfl rfl ?_ ?_ ?_); (focus (first | exact ⟨rfl, rfl⟩ | (simp only [i64s_length, u8s_length]; refine ⟨?_, ?_⟩ <;> first | rfl | assumption | omega))); (focus (first | exact i64s_one _ | exact u8s_one _ | simp [Value.oneCell'])); clear E; intro u E0; have E := Lib.hid E0; clear E0))
      go_roundw
      case rel => exact ⟨i + 1, by omega, by go_num, E⟩
      case measure => simp [intOf]; try omega
    · obtain rfl : i = i0 := by omega
      have hz0 := i64s_get ZS (i * 3 + 0) (by have := hzl.out; omega)
      have hz1 := i64s_get ZS (i * 3 + 1) (by have := hzl.out; omega)
      have hz2 := i64s_get ZS (i * 3 + 2) (by have := hzl.out; omega)
      have ho0 := G0.out
      have ho1 := G1.out
      have ho2 := GB.out
      obtain ⟨y0, hy0⟩ : ∃ z, ZS.getD (i * 3 + 0) 0 = z := ⟨_, rfl⟩
      rw [hy0] at hz0 ho0
      replace hz0 := Lib.hid hz0
      obtain ⟨y1, hy1⟩ : ∃ z, ZS.getD (i * 3 + 1) 0 = z := ⟨_, rfl⟩
      rw [hy1] at hz1 ho1
      replace hz1 := Lib.hid hz1
      obtain ⟨y2, hy2⟩ : ∃ z, ZS.getD (i * 3 + 2) 0 = z := ⟨_, rfl⟩
      rw [hy2] at hz2 ho2
      replace hz2 := Lib.hid hz2
      have hI0 := Lib.hid (fun u => in_yes y0 0 63 ho0 u)
      have hI1 := Lib.hid (fun u => in_yes y1 0 127 ho1 u)
      have hI2 := Lib.hid (fun u => in_no y2 0 63 ho2 u)
      clear HO GB G0 G1 ho2
      go_wp2_with (first
        | ((with_reducible refine kn_load (g := gz) (i := i * 3 + 0) E.out rfl rfl rfl hz0.out ?_)) | ((with_reducible refine kn_load_if (g := gz) (i := i * 3 + 0) E.out rfl rfl rfl hz0.out ?_))
        | ((with_reducible refine kn_load (g := gz) (i := i * 3 + 1) E.out rfl rfl rfl hz1.out ?_)) | ((with_reducible refine kn_load_if (g := gz) (i := i * 3 + 1) E.out rfl rfl rfl hz1.out ?_))
        | ((with_reducible refine kn_load (g := gz) (i := i * 3 + 2) E.out rfl rfl rfl hz2.out ?_)) | ((with_reducible refine kn_load_if (g := gz) (i := i * 3 + 2) E.out rfl rfl rfl hz2.out ?_))
        | (go_at_call 37; (with_reducible refine (hI0.out _).mono ?_); clear hI0; rintro e w1 ⟨rfl, rfl⟩)
        | (go_at_call 37; (with_reducible refine (hI1.out _).mono ?_); clear hI1; rintro e w1 ⟨rfl, rfl⟩)
        | (go_at_call 37; (with_reducible refine (hI2.out _).mono ?_); clear hI2; rintro e w1 ⟨rfl, rfl⟩)
        | ((with_reducible refine kn_load E.out rfl rfl rfl rfl ?_)) | ((with_reducible refine kn_load_if E.out rfl rfl rfl rfl ?_)) | ((with_reducible refine kn_loads E.out rfl rfl rfl ?_ ?_); (focus (first | rfl | (simp only [i64s_length, u8s_length]; first | rfl | assumption | omega)))) | ((with_reducible refine kn_loads_if E.out rfl rfl rfl ?_ ?_); (focus (first | rfl | (simp only [i64s_length, u8s_length]; first | rfl | assumption | omega)))) | ((with_reducible refine kn_stores E.out rfl rfl rfl rfl rfl ?_ ?_ ?_); (focus (first | exact ⟨rfl, rfl⟩ | (simp only [i64s_length, u8s_length]; refine ⟨?_, ?_⟩ <;> first | rfl | assumption | omega))); (focus (first | exact i64s_one _ | exact u8s_one _ | simp [Value.oneCell'])); clear E; intro u E0; have E := Lib.hid E0; clear E0))
      go_ret2
      exact ⟨none, 0, 0, rfl, ⟨rfl, by simp, fun h => absurd h (by omega)⟩, by omega, by omega, E.out.bel⟩
theorem rlay11 (xo xh xv : List Int) (ho : xo.length = 3) (hh : xh.length = 3) (hv : xv.length = 3) (w : World) :
    Calls Tryd.prog 15 #[arr xo, arr xh, arr xv] w (Laid w (layX (zsL xo xh xv)) (layY (zsL xo xh xv))) := by
  unfold layX layY
  by_cases h : okZ (zsL xo xh xv)
  · rw [if_pos h, if_pos h]
    exact rlay_ok xo xh xv ho hh hv h w
  · rw [if_neg h, if_neg h]
    obtain ⟨i0, c0, h1, h2, h3, h4⟩ := first_bad _ h
    obtain rfl | rfl | rfl : c0 = 0 ∨ c0 = 1 ∨ c0 = 2 := by omega
    · exact rlay_no0 xo xh xv ho hh hv i0 h1 h4 h3 w
    · exact rlay_no1 xo xh xv ho hh hv i0 h1 h4 h3 w
    · exact rlay_no2 xo xh xv ho hh hv i0 h1 h4 h3 w
end Go.Proofs.YtgcijioiicmjiaaDoor
