/- Fields of a block laid: the program's closure, the document's 'set'. -/
import Derived.Test.YtjlkdmdepdoanaaDoorE1Part
import Derived.Test.YtjlkdmdepdoanaaDoorBcJoin
import Derived.Test.YtjlkdmdepdoanaaDoorBitRset
set_option linter.all false
namespace Go.Proofs.YtjlkdmdepdoanaaDoor
open Go.RowKit
open Bi Lv Eo

namespace Eo
theorem uw_small {z : Int} (h : 0 ≤ z ∧ z < 65536) : IntKind.u64.wrap z = ((z.toNat : Nat) : Int) := by
  rw [IntKind.wrap_u64]; omega
theorem setE_high {p m N : Nat} (hp : p + m ≤ 64) (hN : N < 2 ^ m) : setE 8 (p : Int) (m : Int) N = 0 := by
  unfold setE
  rw [getE_zero (by omega) (by omega), if_pos rfl, if_pos (by simpa using hN)]
end Eo
instance {A : Option Addr} {n c g : Nat} {t : TypeId} {R : List Res} [H : NoU8 R] : NoU8 (.row g t [.slice A n c] :: R) := ⟨fun {B u} hr b hb i x hc => by
  rw [mem_blocks] at hb
  obtain ⟨r, hm, e⟩ := hb
  rcases List.mem_cons.1 hm with rfl | hm
  · have hrow : Row u g t [.slice A n c] := (hr _ List.mem_cons_self).2
    cases e
    rw [cell_of_row u g i _ _ (0, 0) hrow] at hc
    have hmem : Value.int .u8 x ∈ [Value.slice A n c] := by
      have := List.mem_of_getElem? (by simpa using hc)
      exact this
    simp at hmem
  · exact H.h (fun s hs => hr s (List.mem_cons_of_mem _ hs)) b (mem_blocks.2 ⟨r, hm, e⟩) i x hc⟩
/-- A slice that reads as xs. -/
def LaidS (w : World) (xs : List Nat) (e : Ending) (w' : World) : Prop :=
  ∃ A n c, e = .returned (.slice A n c) ∧ Bs w' w'.heap.size A n xs ∧ n ≤ c ∧ c ≤ 9223372036854775807 ∧ Below w.heap.size w w'
set_option maxHeartbeats 1000000 in
theorem set10 (A : Option Addr) (c : Nat) (P M n : Int) (p m : Nat) (hP : P = (p : Int)) (hM : M = (m : Int)) (xs ys : List Nat) (w : World) (h : Bs w w.heap.size A 8 xs) (hp : p + m ≤ 64) (hm : m ≤ 16) (hn : 0 ≤ n ∧ n < ((2 ^ m : Nat) : Int)) (hy : st xs true p m n.toNat = ys) :
    Calls Tryd.prog 39 #[.slice A 8 c, .int .i64 P, .int .i64 M, .int .i64 n] w (LaidS w ys) := by
  subst hP hM hy
  have h2 : 2 ^ m ≤ 2 ^ 16 := Nat.pow_le_pow_right (by omega) hm
  have hN : n.toNat < 2 ^ m := by omega
  have hS := rset_any A 8 c (p : Int) (m : Int) true n.toNat xs w h (by omega) (by omega)
  have e0 := setE_high hp hN
  rw [e0, setV_ok h.1 e0] at hS
  have hu := Lib.hid (uw_small (z := n) (by omega))
  replace hS := Lib.hid hS
  clear e0 h hN h2
  generalize st xs true p m n.toNat = ys at *
  obtain ⟨N, hNe⟩ : ∃ N, n.toNat = N := ⟨_, rfl⟩
  rw [hNe] at hS hu
  clear hNe
  go_enter Tryd.func39, Tryd.ntmps39
  go_wp2_with (go_at_call 55; rw [hu.out]; refine hS.out.mono ?_; rintro e w1 ⟨A1, n1, c1, rfl, hB, h1, h2, hb⟩)
  go_ret
  exact ⟨A1, n1, c1, rfl, hB, h1, h2, hb⟩

set_option maxHeartbeats 4000000 in
set_option maxRecDepth 100000 in
theorem put10 {w u : World} {R : List Res} {F : List (World → Prop)} [NoU8 R] (gb : Nat) (A : Option Addr) (c : Nat) (E0 : Kn w (.row gb 22 [.slice A 8 c] :: R) F u) (P M n : Int) (p m : Nat) (hP : P = (p : Int)) (hM : M = (m : Int)) (xs ys : List Nat) (hx : bsF A 8 xs ∈ F) (hp : p + m ≤ 64) (hm : m ≤ 16) (hl : xs.length = 8) (hy : st xs true p m (n % ((2 ^ m : Nat) : Int)).toNat = ys) :
    Calls Tryd.prog 35 #[.int .i64 P, .int .i64 M, .int .i64 n, .pointer (some ⟨gb, 0, none⟩)] u fun e u1 => e = .returned (.tuple #[]) ∧ ∃ A1 c1, (8 ≤ c1 ∧ c1 ≤ 9223372036854775807) ∧ Kn w (.row gb 22 [.slice A1 8 c1] :: R) (bsF A1 8 ys :: F) u1 := by
  subst hP hM
  have E := Lib.hid E0
  have h2 : 2 ^ m ≤ 2 ^ 16 := Nat.pow_le_pow_right (by omega) hm
  have h0 : 0 < 2 ^ m := Nat.two_pow_pos m
  have b0 := Int.emod_nonneg n (show ((2 ^ m : Nat) : Int) ≠ 0 by omega)
  have b1 := Int.emod_lt_of_pos n (show (0 : Int) < ((2 ^ m : Nat) : Int) by omega)
  have hL := Lib.hid (fun u => lowest_any n (m : Int) m rfl u hm)
  have hyl := Lib.hid (show ys.length = 8 from by rw [← hy]; unfold st; rw [lay_length, hl])
  obtain ⟨V, hV⟩ : ∃ V, n % ((2 ^ m : Nat) : Int) = V := ⟨_, rfl⟩
  rw [hV] at b0 b1 hL hy
  have hN : V.toNat < 2 ^ m := by omega
  have hS := Lib.hid (fun (u : World) (hu : Bs u u.heap.size A 8 xs) => show Calls Tryd.prog 36 #[.slice A 8 c, .int .i64 (p : Int), .int .i64 (m : Int), .int .u64 ((V.toNat : Nat) : Int)] u (Laid u ys 0) from by
    have k := setHigh_any A 8 c (p : Int) (m : Int) V.toNat xs u hu (by omega) (by omega) (by omega)
    have e0 := setE_high hp hN
    rw [e0, setV_ok hl e0] at k
    rw [← hy]
    exact k)
  have hu := Lib.hid (uw_small (z := V) (by omega))
  clear E0 hy hV h2 h0 b0 b1 hN
  generalize V.toNat = N at *
  go_enter Tryd.func35, Tryd.ntmps35
  go_wp2_with fail
  refine wp_region_held_drew (S := Kn w R []) (by kernel_rfl) (E.out.drew.part _ _ (by repeat (first | exact List.Sublist.refl _ | apply List.Sublist.cons_cons | apply List.Sublist.cons)) (by simp)) (fun kS => ?_)
  have E1 := Lib.hid E.out.drew
  generalize World.drew _ = u1 at kS E1 ⊢
  clear E
  have E := E1
  clear E1
  (refine takeL (i := 1) (v := _) rfl (by kernel_rfl) (by kernel_rfl) (by kernel_rfl) (fun _ _ _ h => h) (by first | exact Or.inl ⟨by rfl, (by intro u hSu; clear hSu; go_simp; try with_reducible rfl)⟩ | exact Or.inr ⟨by rfl, rfl⟩) kS ?_; (try simp only [Act.put, List.setIfInBounds_toArray, List.set_cons_zero, List.set_cons_succ])); (refine takeL (i := 2) (v := _) rfl (by kernel_rfl) (by kernel_rfl) (by kernel_rfl) (fun _ _ _ h => h) (by first | exact Or.inl ⟨by rfl, (by intro u hSu; clear hSu; go_simp; try with_reducible rfl)⟩ | exact Or.inr ⟨by rfl, rfl⟩) kS ?_; (try simp only [Act.put, List.setIfInBounds_toArray, List.set_cons_zero, List.set_cons_succ])); (refine takeL (i := 3) (v := _) rfl (by kernel_rfl) (by kernel_rfl) (by kernel_rfl) (fun _ _ _ h => h) (by first | exact Or.inl ⟨by rfl, (by intro u hSu; clear hSu; go_simp; try with_reducible rfl)⟩ | exact Or.inr ⟨by rfl, rfl⟩) kS ?_; (try simp only [Act.put, List.setIfInBounds_toArray, List.set_cons_zero, List.set_cons_succ])); (refine takeL (i := 4) (v := _) rfl (by kernel_rfl) (by kernel_rfl) (by kernel_rfl) (fun _ _ _ h => h) (by first | exact Or.inl ⟨by rfl, (by intro u hSu; clear hSu; go_simp; try with_reducible rfl)⟩ | exact Or.inr ⟨by rfl, rfl⟩) kS ?_; (try simp only [Act.put, List.setIfInBounds_toArray, List.set_cons_zero, List.set_cons_succ]))
  refine callL2 (i := 0) (j := 5) rfl rfl (by kernel_rfl) (fun K hK => ?_) (fun K hK => ?_)
  · (rw [if_pos (by rfl)]; refine wp_kn_load (g := gb) (i := 0) E.out rfl rfl rfl ?_; (refine hK.out _ _ (E.out.part _ _ (by repeat (first | exact List.Sublist.refl _ | apply List.Sublist.cons_cons | apply List.Sublist.cons)) (by simp)) (fun kS => ?_); clear hK K; (try simp only [Act.put, List.setIfInBounds_toArray, List.set_cons_zero, List.set_cons_succ])))
    refine callL (i := 5) rfl (by kernel_rfl) (fun K hK => ?_)
    (go_simp; refine (hL.out _).mono ?_; rintro e w1 ⟨rfl, rfl⟩; go_wp2_with fail; (refine hK.out _ _ (E.out.part _ _ (by repeat (first | exact List.Sublist.refl _ | apply List.Sublist.cons_cons | apply List.Sublist.cons)) (by simp)) (fun kS => ?_); clear hK K; (try simp only [Act.put, List.setIfInBounds_toArray, List.set_cons_zero, List.set_cons_succ])))
    (refine takeL (i := 6) (v := _) rfl (by kernel_rfl) (by kernel_rfl) (by kernel_rfl) (fun _ _ _ h => h) (by first | exact Or.inl ⟨by rfl, (by intro u hSu; clear hSu; go_simp; try with_reducible rfl)⟩ | exact Or.inr ⟨by rfl, rfl⟩) kS ?_; (try simp only [Act.put, List.setIfInBounds_toArray, List.set_cons_zero, List.set_cons_succ]))
    (rw [hu.out]; refine callL (i := 7) rfl (by kernel_rfl) (fun K hK => ?_); (go_simp; refine (hS.out _ (E.out.bs (by simp [hx]))).mono ?_; rintro e w1 ⟨A1, n1, c1, rfl, hB, h1, h2, hb⟩; obtain rfl : n1 = 8 := hB.1.symm.trans hyl.out; have E1 := Lib.hid (E.out.later hb); clear hb E; have E := E1; clear E1; have E1 := Lib.hid (E.out.new_bsi hB); clear E hB; have E := E1; clear E1; go_wp2_with fail; (refine hK.out _ _ (E.out.part _ _ (by repeat (first | exact List.Sublist.refl _ | apply List.Sublist.cons_cons | apply List.Sublist.cons)) (by simp)) (fun kS => ?_); clear hK K; (try simp only [Act.put, List.setIfInBounds_toArray, List.set_cons_zero, List.set_cons_succ]))); (refine takeL (i := 8) (v := _) rfl (by kernel_rfl) (by kernel_rfl) (by kernel_rfl) (fun _ _ _ h => h) (by first | exact Or.inl ⟨by rfl, (by intro u hSu; clear hSu; go_simp; try with_reducible rfl)⟩ | exact Or.inr ⟨by rfl, rfl⟩) kS ?_; (try simp only [Act.put, List.setIfInBounds_toArray, List.set_cons_zero, List.set_cons_succ])); (refine takeL (i := 9) (v := _) rfl (by kernel_rfl) (by kernel_rfl) (by kernel_rfl) (fun _ _ _ h => h) (by first | exact Or.inl ⟨by rfl, (by intro u hSu; clear hSu; go_simp; try with_reducible rfl)⟩ | exact Or.inr ⟨by rfl, rfl⟩) kS ?_; (try simp only [Act.put, List.setIfInBounds_toArray, List.set_cons_zero, List.set_cons_succ])); (refine takeL (i := 10) (v := _) rfl (by kernel_rfl) (by kernel_rfl) (by kernel_rfl) (fun _ _ _ h => h) (by first | exact Or.inl ⟨by rfl, (by intro u hSu; clear hSu; go_simp; try with_reducible rfl)⟩ | exact Or.inr ⟨by rfl, rfl⟩) kS ?_; (try simp only [Act.put, List.setIfInBounds_toArray, List.set_cons_zero, List.set_cons_succ])); refine callL (i := 11) rfl (by kernel_rfl) (fun K hK => ?_); (rw [if_pos (by rfl)]; refine wp_kn_store (g := gb) (i := 0) (v := .slice A1 8 c1) E.out rfl rfl rfl rfl rfl (by simp) ?_; clear E kS; intro u E0; have E := Lib.hid E0; clear E0; (refine hK.out _ _ (E.out.part _ _ (by repeat (first | exact List.Sublist.refl _ | apply List.Sublist.cons_cons | apply List.Sublist.cons)) (by simp)) (fun kS => ?_); clear hK K; (try simp only [Act.put, List.setIfInBounds_toArray, List.set_cons_zero, List.set_cons_succ]))); refine wpAnyH_done (by kernel_rfl) ?_ _; go_wp2_with fail; go_end0; exact ⟨rfl, A1, c1, ⟨h1, h2⟩, E.out⟩)
  · (go_simp; refine (hL.out _).mono ?_; rintro e w1 ⟨rfl, rfl⟩; go_wp2_with fail; (refine hK.out _ _ (E.out.part _ _ (by repeat (first | exact List.Sublist.refl _ | apply List.Sublist.cons_cons | apply List.Sublist.cons)) (by simp)) (fun kS => ?_); clear hK K; (try simp only [Act.put, List.setIfInBounds_toArray, List.set_cons_zero, List.set_cons_succ])))
    (refine takeL (i := 6) (v := _) rfl (by kernel_rfl) (by kernel_rfl) (by kernel_rfl) (fun _ _ _ h => h) (by first | exact Or.inl ⟨by rfl, (by intro u hSu; clear hSu; go_simp; try with_reducible rfl)⟩ | exact Or.inr ⟨by rfl, rfl⟩) kS ?_; (try simp only [Act.put, List.setIfInBounds_toArray, List.set_cons_zero, List.set_cons_succ]))
    refine callL (i := 0) rfl (by kernel_rfl) (fun K hK => ?_)
    (rw [if_pos (by rfl)]; refine wp_kn_load (g := gb) (i := 0) E.out rfl rfl rfl ?_; (refine hK.out _ _ (E.out.part _ _ (by repeat (first | exact List.Sublist.refl _ | apply List.Sublist.cons_cons | apply List.Sublist.cons)) (by simp)) (fun kS => ?_); clear hK K; (try simp only [Act.put, List.setIfInBounds_toArray, List.set_cons_zero, List.set_cons_succ])))
    (rw [hu.out]; refine callL (i := 7) rfl (by kernel_rfl) (fun K hK => ?_); (go_simp; refine (hS.out _ (E.out.bs (by simp [hx]))).mono ?_; rintro e w1 ⟨A1, n1, c1, rfl, hB, h1, h2, hb⟩; obtain rfl : n1 = 8 := hB.1.symm.trans hyl.out; have E1 := Lib.hid (E.out.later hb); clear hb E; have E := E1; clear E1; have E1 := Lib.hid (E.out.new_bsi hB); clear E hB; have E := E1; clear E1; go_wp2_with fail; (refine hK.out _ _ (E.out.part _ _ (by repeat (first | exact List.Sublist.refl _ | apply List.Sublist.cons_cons | apply List.Sublist.cons)) (by simp)) (fun kS => ?_); clear hK K; (try simp only [Act.put, List.setIfInBounds_toArray, List.set_cons_zero, List.set_cons_succ]))); (refine takeL (i := 8) (v := _) rfl (by kernel_rfl) (by kernel_rfl) (by kernel_rfl) (fun _ _ _ h => h) (by first | exact Or.inl ⟨by rfl, (by intro u hSu; clear hSu; go_simp; try with_reducible rfl)⟩ | exact Or.inr ⟨by rfl, rfl⟩) kS ?_; (try simp only [Act.put, List.setIfInBounds_toArray, List.set_cons_zero, List.set_cons_succ])); (refine takeL (i := 9) (v := _) rfl (by kernel_rfl) (by kernel_rfl) (by kernel_rfl) (fun _ _ _ h => h) (by first | exact Or.inl ⟨by rfl, (by intro u hSu; clear hSu; go_simp; try with_reducible rfl)⟩ | exact Or.inr ⟨by rfl, rfl⟩) kS ?_; (try simp only [Act.put, List.setIfInBounds_toArray, List.set_cons_zero, List.set_cons_succ])); (refine takeL (i := 10) (v := _) rfl (by kernel_rfl) (by kernel_rfl) (by kernel_rfl) (fun _ _ _ h => h) (by first | exact Or.inl ⟨by rfl, (by intro u hSu; clear hSu; go_simp; try with_reducible rfl)⟩ | exact Or.inr ⟨by rfl, rfl⟩) kS ?_; (try simp only [Act.put, List.setIfInBounds_toArray, List.set_cons_zero, List.set_cons_succ])); refine callL (i := 11) rfl (by kernel_rfl) (fun K hK => ?_); (rw [if_pos (by rfl)]; refine wp_kn_store (g := gb) (i := 0) (v := .slice A1 8 c1) E.out rfl rfl rfl rfl rfl (by simp) ?_; clear E kS; intro u E0; have E := Lib.hid E0; clear E0; (refine hK.out _ _ (E.out.part _ _ (by repeat (first | exact List.Sublist.refl _ | apply List.Sublist.cons_cons | apply List.Sublist.cons)) (by simp)) (fun kS => ?_); clear hK K; (try simp only [Act.put, List.setIfInBounds_toArray, List.set_cons_zero, List.set_cons_succ]))); refine wpAnyH_done (by kernel_rfl) ?_ _; go_wp2_with fail; go_end0; exact ⟨rfl, A1, c1, ⟨h1, h2⟩, E.out⟩)
end Go.Proofs.YtjlkdmdepdoanaaDoor
