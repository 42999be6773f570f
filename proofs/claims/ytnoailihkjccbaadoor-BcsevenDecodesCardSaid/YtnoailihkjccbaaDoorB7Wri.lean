/- The writer of a block's fields. -/
import Derived.Test.YtnoailihkjccbaaDoorB7Kept
import Derived.Test.YtnoailihkjccbaaDoorG6
import Derived.Test.YtnoailihkjccbaaDoorKnB
set_option linter.all false
namespace Go.Proofs.YtnoailihkjccbaaDoor
open Go.RowKit
open Bi Lv Bt B7

namespace B7
def zz : List Nat := [0, 0, 0, 0, 0, 0, 0, 0, 0, 0, 0, 0, 0, 0, 0, 0]
theorem zz_lt : ∀ x ∈ zz, x < 256 := by decide
theorem zz_length : zz.length = 16 := rfl
/-- A number as 64 bits. -/
def uN (n : Int) : Nat := (n % 18446744073709551616).toNat
theorem uN_lt (n : Int) : uN n < 18446744073709551616 := by unfold uN; omega
theorem uN_eq (n : Int) : ((uN n : Nat) : Int) = IntKind.u64.wrap n := by
  unfold uN
  show ((n % 18446744073709551616).toNat : Int) = n % 18446744073709551616
  omega
theorem uN_ok {n : Int} {m : Nat} (h : 0 ≤ n ∧ n < 2 ^ m) (hm : m ≤ 16) : uN n = n.toNat ∧ uN n < 2 ^ m := by
  have h1 : 2 ^ m ≤ 2 ^ 16 := Nat.pow_le_pow_right (by omega) hm
  have e : ((2 ^ m : Nat) : Int) = 2 ^ m := by simp
  have h2 := h.2
  rw [← e] at h2
  unfold uN
  omega
theorem uN_no {n : Int} {m : Nat} (h : ¬ (0 ≤ n ∧ n < 2 ^ m)) (hm : m ≤ 16) (hn : -9223372036854775808 ≤ n ∧ n ≤ 9223372036854775807) : ¬ uN n < 2 ^ m := by
  have h1 : 2 ^ m ≤ 2 ^ 16 := Nat.pow_le_pow_right (by omega) hm
  have e : ((2 ^ m : Nat) : Int) = 2 ^ m := by simp
  rw [← e] at h
  unfold uN
  omega
def fitsI (n : Int) (m : Nat) : Prop := 0 ≤ n ∧ n < 2 ^ m
instance (n : Int) (m : Nat) : Decidable (fitsI n m) := inferInstanceAs (Decidable (_ ∧ _))
/-- The writer's state at p, once the fields so far were good. -/
structure SS (f : Nat → Bool) (good : Prop) (p : Nat) (xs : List Nat) (P : Nat) (b : Bool) : Prop where
  len : xs.length = 16
  le : P ≤ p
  yes : b = true → good ∧ P = p ∧ xs = lay zz false 0 p f
  no : b = false → ¬ good
theorem SS.start (f : Nat → Bool) : SS f True 0 zz 0 true := ⟨rfl, Nat.le_refl _, fun _ => ⟨trivial, rfl, (lay_zero zz false 0 f zz_lt).symm⟩, fun h => by cases h⟩
/-- What a field turns of it. -/
theorem SS.step {f : Nat → Bool} {good good' : Prop} {p q : Nat} {xs xs' : List Nat} {P P' : Nat} {b b' : Bool} (h : SS f good p xs P b) (n : Int) (m : Nat) (hq : p + m = q) (hg : good' ↔ (good ∧ fitsI n m))
    (hf : ∀ k, k < m → n.toNat.testBit k = f (p + k)) (hs : (fitsI n m ∧ xs' = st xs false P m n.toNat ∧ P' = P + m ∧ b' = b) ∨ (¬ fitsI n m ∧ xs' = xs ∧ P' = P ∧ b' = false)) : SS f good' q xs' P' b' := by
  subst hq
  rcases hs with ⟨h1, rfl, rfl, rfl⟩ | ⟨h1, rfl, rfl, rfl⟩
  · refine ⟨?_, by have := h.le; omega, fun hb => ?_, fun hb hgo => ?_⟩
    · unfold st; rw [lay_length]; exact h.len
    · obtain ⟨g1, rfl, rfl⟩ := h.yes hb
      exact ⟨hg.2 ⟨g1, h1⟩, rfl, Bc.st_lay zz f P m _ zz_lt hf⟩
    · exact h.no hb (hg.1 hgo).1
  · exact ⟨h.len, by have := h.le; omega, fun hb => (by cases hb), fun _ hgo => h1 (hg.1 hgo).2⟩
end B7

/-! No byte lies in these. -/
class NoByte (vs : List Value) : Prop where
  h : ∀ v ∈ vs, ∀ x, v ≠ .int .u8 x
instance : NoByte [] := ⟨fun v hv => by simp at hv⟩
instance {z : Int} {vs : List Value} [H : NoByte vs] : NoByte (.int .i64 z :: vs) := ⟨fun v hv x e => by
  rcases List.mem_cons.1 hv with rfl | hv
  · cases e
  · exact H.h v hv x e⟩
instance {A : Option Addr} {n c : Nat} {vs : List Value} [H : NoByte vs] : NoByte (.slice A n c :: vs) := ⟨fun v hv x e => by
  rcases List.mem_cons.1 hv with rfl | hv
  · cases e
  · exact H.h v hv x e⟩
instance {b : Bool} {vs : List Value} [H : NoByte vs] : NoByte (.bool b :: vs) := ⟨fun v hv x e => by
  rcases List.mem_cons.1 hv with rfl | hv
  · cases e
  · exact H.h v hv x e⟩
instance {g : Nat} {t : TypeId} {vs : List Value} {R : List Res} [V : NoByte vs] [H : NoU8 R] : NoU8 (.row g t vs :: R) := ⟨fun {B u} hr b hb i x hc => by
  rw [mem_blocks] at hb
  obtain ⟨r, hm, e⟩ := hb
  rcases List.mem_cons.1 hm with rfl | hm
  · have hrow : Row u g t vs := (hr _ List.mem_cons_self).2
    cases e
    rw [cell_of_row u g i _ _ (0, 0) hrow] at hc
    have hmem : Value.int .u8 x ∈ vs := by
      have := List.mem_of_getElem? (by simpa using hc)
      exact this
    exact V.h _ hmem x rfl
  · exact H.h (fun s hs => hr s (List.mem_cons_of_mem _ hs)) b (mem_blocks.2 ⟨r, hm, e⟩) i x hc⟩

/-- 'make' of sixteen bytes. -/
theorem kn_make16 {w u : World} {R : List Res} {F : List (World → Prop)} {ops : Array Oper} {rest : List Oper} {o : Oper} {a : Act} {Q : Exit → Act → World → Prop} (E : Kn w R F u) (hgd : o.guard = none) {l c : Operand} (ho : o.op = .makeSlice 22 l c) (hl : a.eval l = .int .i64 16) (hc : a.eval c = .int .i64 16)
    (h : ∀ g u', Kn w (.row g 5 (u8s zz) :: R) F u' → Bs u' u'.heap.size (some ⟨g, 0, none⟩) 16 zz → wpList Tryd.prog ops Q rest (a.put o.dst (.slice (some ⟨g, 0, none⟩) 16 16)) u') : wpList Tryd.prog ops Q (o :: rest) a u := by
  have hrun := run_make_row' (P := Tryd.prog) 22 5 (.int .u8 0) 1 Tryd.underlying22 info_u8 rfl .i64 .i64 16 (by omega) (by omega) u
  refine wpList_plain hgd fun _ hK => ?_
  unfold Oper.wp execOp
  simp only [ho, hl, hc, Sem.run_bind]
  have hrun' : (Instr.makeSlice 22 (.int .i64 16) (.int .i64 16)).run Tryd.prog u = .ok (.slice (some ⟨u.heap.size, 0, none⟩) 16 16) (u.alloc (.cells (u8s zz).toArray 5)) := by
    rw [show madeCells #[Value.int .u8 0] 16 = (u8s zz).toArray from by kernel_rfl] at hrun
    exact hrun
  simp only [hrun', Result.andThen_ok, Sem.run_pure]
  exact hK _ _ (h _ _ (E.new 5 (u8s zz)) (Blk.bs (t := 5) (Blk.new' u 5 zz) zz_lt 16 rfl))

/-- The writer's three variables. -/
abbrev wri (gb ga gf : Nat) (A : Option Addr) (c : Nat) (P : Nat) (b : Bool) (R : List Res) : List Res := .row gf 4 [.bool b] :: .row ga 3 [.int .i64 (P : Int)] :: .row gb 22 [.slice A 16 c] :: R
set_option maxHeartbeats 1000000 in
theorem writer_any {w u : World} {R : List Res} {F : List (World → Prop)} (E0 : Kn w R F u) :
    Calls Tryd.prog 32 #[] u fun e u1 => ∃ gb ga gf A c, e = .returned (.tuple #[.func (.func 58) #[] #[.pointer (some ⟨gb, 0, none⟩), .pointer (some ⟨ga, 0, none⟩), .pointer (some ⟨gf, 0, none⟩)], .func (.func 59) #[] #[.pointer (some ⟨gf, 0, none⟩), .pointer (some ⟨gb, 0, none⟩)]]) ∧ 16 ≤ c ∧ c ≤ 9223372036854775807 ∧ Kn w (wri gb ga gf A c 0 true R) (bsF A 16 zz :: F) u1 := by
  have E := Lib.hid E0
  have hzl : Hid (∀ x ∈ zz, x < 256) := zz_lt
  clear E0
  go_enter Tryd.func32, Tryd.ntmps32
  go_wp2_with (first
    | ((with_reducible refine kn_make16 E.out rfl rfl rfl rfl ?_); clear E; intro gg u E0 hB; have hB := E0.row_bs (g := gg) hzl.out 16 rfl; have E1 := E0.rest gg; have hF : bsF (some ⟨gg, 0, none⟩) 16 zz u := hB; have E := Lib.hid (E1.fact (f := bsF (some ⟨gg, 0, none⟩) 16 zz) (fun u' hk => by have h2 := E1.facts _ List.mem_cons_self u' hk; exact Blk.bs (t := 5) h2 hzl.out 16 rfl)); clear E0 E1 hB hF)
    | ((with_reducible refine kn_load E.out rfl rfl rfl rfl ?_)) | ((with_reducible refine kn_load_if E.out rfl rfl rfl rfl ?_)) | ((with_reducible refine kn_loads E.out rfl rfl rfl ?_ ?_); (focus (first | rfl | (simp only [i64s_length, u8s_length]; first | rfl | assumption | omega)))) | ((with_reducible refine kn_loads_if E.out rfl rfl rfl ?_ ?_); (focus (first | rfl | (simp only [i64s_length, u8s_length]; first | rfl | assumption | omega)))) | ((with_reducible refine kn_store1_int E.out rfl rfl rfl rfl rfl ?_); clear E; intro u E0; have E := Lib.hid E0; clear E0) | ((with_reducible refine kn_store1_slice E.out rfl rfl rfl rfl rfl ?_); clear E; intro u E0; have E := Lib.hid E0; clear E0) | ((with_reducible refine kn_store1_bool E.out rfl rfl rfl rfl rfl ?_); clear E; intro u E0; have E := Lib.hid E0; clear E0) | ((with_reducible refine kn_stores E.out rfl rfl rfl rfl rfl ?_ ?_ ?_); (focus (first | exact ⟨rfl, rfl⟩ | (simp only [i64s_length, u8s_length]; refine ⟨?_, ?_⟩ <;> first | rfl | assumption | omega))); (focus (first | exact i64s_one _ | exact u8s_one _ | simp [Value.oneCell'])); clear E; intro u E0; have E := Lib.hid E0; clear E0) | ((with_reducible refine kn_alloc (o := ⟨some 2, _, _, _, _, _⟩) E.out rfl rfl ?_); clear E; intro g2 u E0 hb0; have E := Lib.hid E0; clear E0 hb0) | ((with_reducible refine kn_box (o := ⟨some 2, _, _, _, _, _⟩) E.out rfl rfl rfl ?_); clear E; intro g2 u E0 hb0; have E := Lib.hid E0; clear E0 hb0) | ((with_reducible refine kn_box_int (o := ⟨some 2, _, _, _, _, _⟩) E.out rfl rfl rfl ?_); clear E; intro g2 u E0 hb0; have E := Lib.hid E0; clear E0 hb0) | ((with_reducible refine kn_box_slice (o := ⟨some 2, _, _, _, _, _⟩) E.out rfl rfl rfl ?_); clear E; intro g2 u E0 hb0; have E := Lib.hid E0; clear E0 hb0) | ((with_reducible refine kn_box_bool (o := ⟨some 2, _, _, _, _, _⟩) E.out rfl rfl rfl ?_); clear E; intro g2 u E0 hb0; have E := Lib.hid E0; clear E0 hb0) | ((with_reducible refine kn_box_func (o := ⟨some 2, _, _, _, _, _⟩) E.out rfl rfl rfl ?_); clear E; intro g2 u E0 hb0; have E := Lib.hid E0; clear E0 hb0) | ((with_reducible refine kn_alloc (o := ⟨some 3, _, _, _, _, _⟩) E.out rfl rfl ?_); clear E; intro g3 u E0 hb0; have E := Lib.hid E0; clear E0 hb0) | ((with_reducible refine kn_box (o := ⟨some 3, _, _, _, _, _⟩) E.out rfl rfl rfl ?_); clear E; intro g3 u E0 hb0; have E := Lib.hid E0; clear E0 hb0) | ((with_reducible refine kn_box_int (o := ⟨some 3, _, _, _, _, _⟩) E.out rfl rfl rfl ?_); clear E; intro g3 u E0 hb0; have E := Lib.hid E0; clear E0 hb0) | ((with_reducible refine kn_box_slice (o := ⟨some 3, _, _, _, _, _⟩) E.out rfl rfl rfl ?_); clear E; intro g3 u E0 hb0; have E := Lib.hid E0; clear E0 hb0) | ((with_reducible refine kn_box_bool (o := ⟨some 3, _, _, _, _, _⟩) E.out rfl rfl rfl ?_); clear E; intro g3 u E0 hb0; have E := Lib.hid E0; clear E0 hb0) | ((with_reducible refine kn_box_func (o := ⟨some 3, _, _, _, _, _⟩) E.out rfl rfl rfl ?_); clear E; intro g3 u E0 hb0; have E := Lib.hid E0; clear E0 hb0) | ((with_reducible refine kn_alloc (o := ⟨some 4, _, _, _, _, _⟩) E.out rfl rfl ?_); clear E; intro g4 u E0 hb0; have E := Lib.hid E0; clear E0 hb0) | ((with_reducible refine kn_box (o := ⟨some 4, _, _, _, _, _⟩) E.out rfl rfl rfl ?_); clear E; intro g4 u E0 hb0; have E := Lib.hid E0; clear E0 hb0) | ((with_reducible refine kn_box_int (o := ⟨some 4, _, _, _, _, _⟩) E.out rfl rfl rfl ?_); clear E; intro g4 u E0 hb0; have E := Lib.hid E0; clear E0 hb0) | ((with_reducible refine kn_box_slice (o := ⟨some 4, _, _, _, _, _⟩) E.out rfl rfl rfl ?_); clear E; intro g4 u E0 hb0; have E := Lib.hid E0; clear E0 hb0) | ((with_reducible refine kn_box_bool (o := ⟨some 4, _, _, _, _, _⟩) E.out rfl rfl rfl ?_); clear E; intro g4 u E0 hb0; have E := Lib.hid E0; clear E0 hb0) | ((with_reducible refine kn_box_func (o := ⟨some 4, _, _, _, _, _⟩) E.out rfl rfl rfl ?_); clear E; intro g4 u E0 hb0; have E := Lib.hid E0; clear E0 hb0) | ((with_reducible refine kn_alloc E.out rfl rfl ?_); clear E; intro g u E0 hb0; have E := Lib.hid E0; clear E0 hb0) | ((with_reducible refine kn_box E.out rfl rfl rfl ?_); clear E; intro g u E0 hb0; have E := Lib.hid E0; clear E0 hb0) | ((with_reducible refine kn_box_int E.out rfl rfl rfl ?_); clear E; intro g u E0 hb0; have E := Lib.hid E0; clear E0 hb0) | ((with_reducible refine kn_box_slice E.out rfl rfl rfl ?_); clear E; intro g u E0 hb0; have E := Lib.hid E0; clear E0 hb0) | ((with_reducible refine kn_box_bool E.out rfl rfl rfl ?_); clear E; intro g u E0 hb0; have E := Lib.hid E0; clear E0 hb0) | ((with_reducible refine kn_box_func E.out rfl rfl rfl ?_); clear E; intro g u E0 hb0; have E := Lib.hid E0; clear E0 hb0))
  go_ret2
  exact ⟨g2, g3, g4, _, _, rfl, by omega, by omega, E.out.part _ _ (List.Sublist.refl _) (fun f h => by rcases List.mem_cons.1 h with rfl | h; exact List.mem_cons_self; exact List.mem_cons_of_mem _ (List.mem_cons_of_mem _ h))⟩

/-- A block of one cell, at the single operation. -/
theorem wp_kn_store1 {w u : World} {R R' : List Res} {F : List (World → Prop)} {o : Oper} {a : Act} {Q : Exit → Act → World → Prop} {K : Act → World → Prop} (E : Kn w R F u) {ty : TypeId} {x y : Operand} (ho : o.op = .store ty x y) (hd : o.dst = none) {g : Nat} (hx : a.eval x = .pointer (some ⟨g, 0, none⟩)) {v : Value} (hy : a.eval y = v) (h1 : v.oneCell' = true) {t : TypeId} {old : Value} [H : HasRow R g t [old]] [S : Scal ty]
    [T : Turn R (.row g t [old]) (.row g t [v]) R'] (h : ∀ u', Kn w R' F u' → K a u') : o.wp Tryd.prog a u K Q :=
  wp_kn_store (i := 0) (T := T) E ho hd hx hy h1 (by simp) h
/-- What 'put' leaves. -/
def Puts (w : World) (gb ga gf : Nat) (P m : Nat) (n : Int) (b : Bool) (xs : List Nat) (R : List Res) (F : List (World → Prop)) (e : Ending) (u1 : World) : Prop :=
  e = .returned (.tuple #[]) ∧ ∃ A' c' xs' P' b', (16 ≤ c' ∧ c' ≤ 9223372036854775807) ∧ ((fitsI n m ∧ xs' = st xs false P m n.toNat ∧ P' = P + m ∧ b' = b) ∨ (¬ fitsI n m ∧ xs' = xs ∧ P' = P ∧ b' = false)) ∧ Kn w (wri gb ga gf A' c' P' b' R) (bsF A' 16 xs' :: F) u1
set_option maxHeartbeats 4000000 in
set_option maxRecDepth 100000 in
theorem put_ok {w u : World} {R : List Res} {F : List (World → Prop)} [NoU8 R] (gb ga gf : Nat) (A : Option Addr) (c P m : Nat) (b : Bool) (n M : Int) (xs : List Nat) (hM : M = (m : Int)) (E0 : Kn w (wri gb ga gf A c P b R) F u) (hx : bsF A 16 xs ∈ F) (hm : m ≤ 16) (hp : P + m ≤ 128) (hfit : fitsI n m) (hl : xs.length = 16) :
    Calls Tryd.prog 58 #[.int .i64 n, .int .i64 M, .pointer (some ⟨gb, 0, none⟩), .pointer (some ⟨ga, 0, none⟩), .pointer (some ⟨gf, 0, none⟩)] u (Puts w gb ga gf P m n b xs R F) := by
  subst hM
  have E := Lib.hid E0
  unfold wri at E
  obtain ⟨hu1, hu2⟩ := uN_ok hfit hm
  have hS := Lib.hid (fun (u : World) (hu : Bs u u.heap.size A 16 xs) => setLow_any A 16 c (P : Int) (m : Int) (uN n) xs u hu (by omega) (by omega) (uN_lt n))
  have hE : setE 16 (P : Int) (m : Int) (uN n) = 0 := by
    unfold setE
    rw [getE_zero (by omega) (by omega), if_pos rfl, if_pos (by simpa using hu2)]
  rw [setV_ok hl hE, hE, uN_eq, hu1] at hS
  have hlen := Lib.hid (show (st xs false P m n.toNat).length = 16 from by unfold st; rw [lay_length, hl])
  have hw := Lib.hid (show IntKind.i64.wrap ((P : Int) + (m : Int)) = ((P + m : Nat) : Int) from by rw [IntKind.wrap_i64]; omega)
  clear E0 hu1 hu2 hE
  obtain ⟨ys, hst⟩ : ∃ z, st xs false P m n.toNat = z := ⟨_, rfl⟩
  rw [hst] at hS hlen
  obtain ⟨Pm, hPm⟩ : ∃ z, P + m = z := ⟨_, rfl⟩
  rw [hPm] at hw
  have HST := Lib.hid hst
  have HPM := Lib.hid hPm
  clear hst hPm
  go_enter Tryd.func58, Tryd.ntmps58
  go_wp2_with (first
    | (go_at_call 20; refine (hS.out _ (E.out.bs hx)).mono ?_; clear hS; rintro e w1 ⟨A4, n4, c4, rfl, hB1, hn4, hc4, hb⟩; obtain rfl : n4 = 16 := hB1.1.symm.trans hlen.out; have E1 := Lib.hid (E.out.later hb); clear hb E; have E := E1; clear E1; have E1 := Lib.hid (E.out.new_bsi hB1); clear E hB1; have E := E1; clear E1)
    | ((with_reducible refine kn_load E.out rfl rfl rfl rfl ?_)) | ((with_reducible refine kn_load_if E.out rfl rfl rfl rfl ?_)) | ((with_reducible refine kn_loads E.out rfl rfl rfl ?_ ?_); (focus (first | rfl | (simp only [i64s_length, u8s_length]; first | rfl | assumption | omega)))) | ((with_reducible refine kn_loads_if E.out rfl rfl rfl ?_ ?_); (focus (first | rfl | (simp only [i64s_length, u8s_length]; first | rfl | assumption | omega)))) | ((with_reducible refine kn_store1_int E.out rfl rfl rfl rfl rfl ?_); clear E; intro u E0; have E := Lib.hid E0; clear E0) | ((with_reducible refine kn_store1_slice E.out rfl rfl rfl rfl rfl ?_); clear E; intro u E0; have E := Lib.hid E0; clear E0) | ((with_reducible refine kn_store1_bool E.out rfl rfl rfl rfl rfl ?_); clear E; intro u E0; have E := Lib.hid E0; clear E0) | ((with_reducible refine kn_stores E.out rfl rfl rfl rfl rfl ?_ ?_ ?_); (focus (first | exact ⟨rfl, rfl⟩ | (simp only [i64s_length, u8s_length]; refine ⟨?_, ?_⟩ <;> first | rfl | assumption | omega))); (focus (first | exact i64s_one _ | exact u8s_one _ | simp [Value.oneCell'])); clear E; intro u E0; have E := Lib.hid E0; clear E0) | ((with_reducible refine kn_alloc E.out rfl rfl ?_); clear E; intro g u E0 hb0; have E := Lib.hid E0; clear E0 hb0) | ((with_reducible refine kn_box E.out rfl rfl rfl ?_); clear E; intro g u E0 hb0; have E := Lib.hid E0; clear E0 hb0) | ((with_reducible refine kn_box_int E.out rfl rfl rfl ?_); clear E; intro g u E0 hb0; have E := Lib.hid E0; clear E0 hb0) | ((with_reducible refine kn_box_slice E.out rfl rfl rfl ?_); clear E; intro g u E0 hb0; have E := Lib.hid E0; clear E0 hb0) | ((with_reducible refine kn_box_bool E.out rfl rfl rfl ?_); clear E; intro g u E0 hb0; have E := Lib.hid E0; clear E0 hb0) | ((with_reducible refine kn_box_func E.out rfl rfl rfl ?_); clear E; intro g u E0 hb0; have E := Lib.hid E0; clear E0 hb0))
  refine wp_region_held_drew (S := Kn w R []) (by kernel_rfl) (E.out.drew.part _ _ (by repeat (first | exact List.Sublist.refl _ | apply List.Sublist.cons_cons | apply List.Sublist.cons)) (by simp)) (fun kS => ?_)
  have E1 := Lib.hid E.out.drew
  generalize World.drew _ = u1 at kS E1 ⊢
  clear E
  have E := E1
  clear E1
  (refine takeL (i := 0) (v := _) rfl (by kernel_rfl) (by kernel_rfl) (by kernel_rfl) (fun _ _ _ h => h) (by first | exact Or.inl ⟨by rfl, (by intro u hSu; clear hSu; go_simp; try with_reducible rfl)⟩ | exact Or.inr ⟨by rfl, rfl⟩) kS ?_; (try simp only [Act.put, List.setIfInBounds_toArray, List.set_cons_zero, List.set_cons_succ])); (refine takeL (i := 2) (v := _) rfl (by kernel_rfl) (by kernel_rfl) (by kernel_rfl) (fun _ _ _ h => h) (by first | exact Or.inl ⟨by rfl, (by intro u hSu; clear hSu; go_simp; try with_reducible rfl)⟩ | exact Or.inr ⟨by rfl, rfl⟩) kS ?_; (try simp only [Act.put, List.setIfInBounds_toArray, List.set_cons_zero, List.set_cons_succ]))
  refine callL2 (i := 1) (j := 4) rfl rfl (by kernel_rfl) (fun K hK => ?_) (fun K hK => ?_)
  · (rw [if_pos (by rfl)]; refine wp_kn_load (g := ga) (i := 0) E.out rfl rfl rfl ?_; (refine hK.out _ _ (E.out.part _ _ (by repeat (first | exact List.Sublist.refl _ | apply List.Sublist.cons_cons | apply List.Sublist.cons)) (by simp)) (fun kS => ?_); clear hK K; (try simp only [Act.put, List.setIfInBounds_toArray, List.set_cons_zero, List.set_cons_succ])))
    (refine takeL (i := 3) (v := _) rfl (by kernel_rfl) (by kernel_rfl) (by kernel_rfl) (fun _ _ _ h => h) (by first | exact Or.inl ⟨by rfl, (by intro u hSu; clear hSu; go_simp; try with_reducible rfl)⟩ | exact Or.inr ⟨by rfl, rfl⟩) kS ?_; (try simp only [Act.put, List.setIfInBounds_toArray, List.set_cons_zero, List.set_cons_succ]))
    rw [hw.out]
    refine callL (i := 4) rfl (by kernel_rfl) (fun K hK => ?_)
    (rw [if_pos (by rfl)]; refine wp_kn_store1 (g := gb) (v := .slice A4 16 c4) E.out rfl rfl rfl rfl rfl ?_; clear E kS; intro u E0; have E := Lib.hid E0; clear E0; (refine hK.out _ _ (E.out.part _ _ (by repeat (first | exact List.Sublist.refl _ | apply List.Sublist.cons_cons | apply List.Sublist.cons)) (by simp)) (fun kS => ?_); clear hK K; (try simp only [Act.put, List.setIfInBounds_toArray, List.set_cons_zero, List.set_cons_succ])))
    refine callL (i := 5) rfl (by kernel_rfl) (fun K hK => ?_)
    (rw [if_pos (by rfl)]; refine wp_kn_store1 (g := ga) (v := .int .i64 (Pm : Int)) E.out rfl rfl rfl rfl rfl ?_; clear E kS; intro u E0; have E := Lib.hid E0; clear E0; (refine hK.out _ _ (E.out.part _ _ (by repeat (first | exact List.Sublist.refl _ | apply List.Sublist.cons_cons | apply List.Sublist.cons)) (by simp)) (fun kS => ?_); clear hK K; (try simp only [Act.put, List.setIfInBounds_toArray, List.set_cons_zero, List.set_cons_succ])))
    (refine wpAnyH_done (by kernel_rfl) ?_ _; go_wp2_with fail; go_end0; exact ⟨rfl, A4, c4, _, Pm, b, ⟨by omega, by omega⟩, .inl ⟨hfit, HST.out.symm, HPM.out.symm, rfl⟩, E.out⟩)
  · (rw [if_pos (by rfl)]; refine wp_kn_store1 (g := gb) (v := .slice A4 16 c4) E.out rfl rfl rfl rfl rfl ?_; clear E kS; intro u E0; have E := Lib.hid E0; clear E0; (refine hK.out _ _ (E.out.part _ _ (by repeat (first | exact List.Sublist.refl _ | apply List.Sublist.cons_cons | apply List.Sublist.cons)) (by simp)) (fun kS => ?_); clear hK K; (try simp only [Act.put, List.setIfInBounds_toArray, List.set_cons_zero, List.set_cons_succ])))
    refine callL (i := 1) rfl (by kernel_rfl) (fun K hK => ?_)
    (rw [if_pos (by rfl)]; refine wp_kn_load (g := ga) (i := 0) E.out rfl rfl rfl ?_; (refine hK.out _ _ (E.out.part _ _ (by repeat (first | exact List.Sublist.refl _ | apply List.Sublist.cons_cons | apply List.Sublist.cons)) (by simp)) (fun kS => ?_); clear hK K; (try simp only [Act.put, List.setIfInBounds_toArray, List.set_cons_zero, List.set_cons_succ])))
    (refine takeL (i := 3) (v := _) rfl (by kernel_rfl) (by kernel_rfl) (by kernel_rfl) (fun _ _ _ h => h) (by first | exact Or.inl ⟨by rfl, (by intro u hSu; clear hSu; go_simp; try with_reducible rfl)⟩ | exact Or.inr ⟨by rfl, rfl⟩) kS ?_; (try simp only [Act.put, List.setIfInBounds_toArray, List.set_cons_zero, List.set_cons_succ]))
    rw [hw.out]
    refine callL (i := 5) rfl (by kernel_rfl) (fun K hK => ?_)
    (rw [if_pos (by rfl)]; refine wp_kn_store1 (g := ga) (v := .int .i64 (Pm : Int)) E.out rfl rfl rfl rfl rfl ?_; clear E kS; intro u E0; have E := Lib.hid E0; clear E0; (refine hK.out _ _ (E.out.part _ _ (by repeat (first | exact List.Sublist.refl _ | apply List.Sublist.cons_cons | apply List.Sublist.cons)) (by simp)) (fun kS => ?_); clear hK K; (try simp only [Act.put, List.setIfInBounds_toArray, List.set_cons_zero, List.set_cons_succ])))
    (refine wpAnyH_done (by kernel_rfl) ?_ _; go_wp2_with fail; go_end0; exact ⟨rfl, A4, c4, _, Pm, b, ⟨by omega, by omega⟩, .inl ⟨hfit, HST.out.symm, HPM.out.symm, rfl⟩, E.out⟩)

set_option maxHeartbeats 4000000 in
set_option maxRecDepth 100000 in
theorem put_no {w u : World} {R : List Res} {F : List (World → Prop)} [NoU8 R] (gb ga gf : Nat) (A : Option Addr) (c P m : Nat) (b : Bool) (n M : Int) (xs : List Nat) (hM : M = (m : Int)) (E0 : Kn w (wri gb ga gf A c P b R) F u) (hx : bsF A 16 xs ∈ F) (hm : m ≤ 16) (hp : P + m ≤ 128) (hfit : ¬ fitsI n m) (hn : -9223372036854775808 ≤ n ∧ n ≤ 9223372036854775807) (hl : xs.length = 16) (hc : 16 ≤ c ∧ c ≤ 9223372036854775807) :
    Calls Tryd.prog 58 #[.int .i64 n, .int .i64 M, .pointer (some ⟨gb, 0, none⟩), .pointer (some ⟨ga, 0, none⟩), .pointer (some ⟨gf, 0, none⟩)] u (Puts w gb ga gf P m n b xs R F) := by
  subst hM
  have E := Lib.hid E0
  unfold wri at E
  have hu2 := uN_no hfit hm hn
  have hS := Lib.hid (fun (u : World) (hu : Bs u u.heap.size A 16 xs) => setLow_any A 16 c (P : Int) (m : Int) (uN n) xs u hu (by omega) (by omega) (uN_lt n))
  have hE : setE 16 (P : Int) (m : Int) (uN n) = 10 := by
    unfold setE
    rw [getE_zero (by omega) (by omega), if_pos rfl, if_neg (by simpa using hu2)]
  rw [setV_bad hl (by rw [hE]; decide), hE, uN_eq] at hS
  clear E0 hu2 hE
  go_enter Tryd.func58, Tryd.ntmps58
  go_wp2_with (first
    | (go_at_call 20; refine (hS.out _ (E.out.bs hx)).mono ?_; clear hS; rintro e w1 ⟨A4, n4, c4, rfl, hB1, hn4, hc4, hb⟩; clear hB1; have E1 := Lib.hid (E.out.later hb); clear hb E; have E := E1; clear E1)
    | ((with_reducible refine kn_load E.out rfl rfl rfl rfl ?_)) | ((with_reducible refine kn_load_if E.out rfl rfl rfl rfl ?_)) | ((with_reducible refine kn_loads E.out rfl rfl rfl ?_ ?_); (focus (first | rfl | (simp only [i64s_length, u8s_length]; first | rfl | assumption | omega)))) | ((with_reducible refine kn_loads_if E.out rfl rfl rfl ?_ ?_); (focus (first | rfl | (simp only [i64s_length, u8s_length]; first | rfl | assumption | omega)))) | ((with_reducible refine kn_store1_int E.out rfl rfl rfl rfl rfl ?_); clear E; intro u E0; have E := Lib.hid E0; clear E0) | ((with_reducible refine kn_store1_slice E.out rfl rfl rfl rfl rfl ?_); clear E; intro u E0; have E := Lib.hid E0; clear E0) | ((with_reducible refine kn_store1_bool E.out rfl rfl rfl rfl rfl ?_); clear E; intro u E0; have E := Lib.hid E0; clear E0) | ((with_reducible refine kn_stores E.out rfl rfl rfl rfl rfl ?_ ?_ ?_); (focus (first | exact ⟨rfl, rfl⟩ | (simp only [i64s_length, u8s_length]; refine ⟨?_, ?_⟩ <;> first | rfl | assumption | omega))); (focus (first | exact i64s_one _ | exact u8s_one _ | simp [Value.oneCell'])); clear E; intro u E0; have E := Lib.hid E0; clear E0) | ((with_reducible refine kn_alloc E.out rfl rfl ?_); clear E; intro g u E0 hb0; have E := Lib.hid E0; clear E0 hb0) | ((with_reducible refine kn_box E.out rfl rfl rfl ?_); clear E; intro g u E0 hb0; have E := Lib.hid E0; clear E0 hb0) | ((with_reducible refine kn_box_int E.out rfl rfl rfl ?_); clear E; intro g u E0 hb0; have E := Lib.hid E0; clear E0 hb0) | ((with_reducible refine kn_box_slice E.out rfl rfl rfl ?_); clear E; intro g u E0 hb0; have E := Lib.hid E0; clear E0 hb0) | ((with_reducible refine kn_box_bool E.out rfl rfl rfl ?_); clear E; intro g u E0 hb0; have E := Lib.hid E0; clear E0 hb0) | ((with_reducible refine kn_box_func E.out rfl rfl rfl ?_); clear E; intro g u E0 hb0; have E := Lib.hid E0; clear E0 hb0))
  go_end0
  exact ⟨rfl, A, c, xs, P, false, hc, .inr ⟨hfit, rfl, rfl, rfl⟩, E.out.fact (fun u' hk => E.out.facts _ hx u' hk)⟩
theorem put_any {w u : World} {R : List Res} {F : List (World → Prop)} [NoU8 R] (gb ga gf : Nat) (A : Option Addr) (c P m : Nat) (b : Bool) (n M : Int) (xs : List Nat) (hM : M = (m : Int)) (E0 : Kn w (wri gb ga gf A c P b R) F u) (hx : bsF A 16 xs ∈ F) (hm : m ≤ 16) (hp : P + m ≤ 128) (hn : -9223372036854775808 ≤ n ∧ n ≤ 9223372036854775807) (hl : xs.length = 16) (hc : 16 ≤ c ∧ c ≤ 9223372036854775807) :
    Calls Tryd.prog 58 #[.int .i64 n, .int .i64 M, .pointer (some ⟨gb, 0, none⟩), .pointer (some ⟨ga, 0, none⟩), .pointer (some ⟨gf, 0, none⟩)] u (Puts w gb ga gf P m n b xs R F) := by
  by_cases h : fitsI n m
  · exact put_ok gb ga gf A c P m b n M xs hM E0 hx hm hp h hl
  · exact put_no gb ga gf A c P m b n M xs hM E0 hx hm hp h hn hl hc

/-! The block. -/
theorem block_yes {w u : World} {R : List Res} {F : List (World → Prop)} (gb ga gf : Nat) (A : Option Addr) (c P : Nat) (E0 : Kn w (wri gb ga gf A c P true R) F u) :
    Calls Tryd.prog 59 #[.pointer (some ⟨gf, 0, none⟩), .pointer (some ⟨gb, 0, none⟩)] u fun e u1 => e = .returned (.tuple #[.slice A 16 c, .int .i64 0]) ∧ u = u1 := by
  have E := Lib.hid E0
  unfold wri at E
  clear E0
  go_enter Tryd.func59, Tryd.ntmps59
  go_wp2_with (first | ((with_reducible refine kn_load E.out rfl rfl rfl rfl ?_)) | ((with_reducible refine kn_load_if E.out rfl rfl rfl rfl ?_)) | ((with_reducible refine kn_loads E.out rfl rfl rfl ?_ ?_); (focus (first | rfl | (simp only [i64s_length, u8s_length]; first | rfl | assumption | omega)))) | ((with_reducible refine kn_loads_if E.out rfl rfl rfl ?_ ?_); (focus (first | rfl | (simp only [i64s_length, u8s_length]; first | rfl | assumption | omega)))) | ((with_reducible refine kn_store1_int E.out rfl rfl rfl rfl rfl ?_); clear E; intro u E0; have E := Lib.hid E0; clear E0) | ((with_reducible refine kn_store1_slice E.out rfl rfl rfl rfl rfl ?_); clear E; intro u E0; have E := Lib.hid E0; clear E0) | ((with_reducible refine kn_store1_bool E.out rfl rfl rfl rfl rfl ?_); clear E; intro u E0; have E := Lib.hid E0; clear E0) | ((with_reducible refine kn_stores E.out rfl rfl rfl rfl rfl ?_ ?_ ?_); (focus (first | exact ⟨rfl, rfl⟩ | (simp only [i64s_length, u8s_length]; refine ⟨?_, ?_⟩ <;> first | rfl | assumption | omega))); (focus (first | exact i64s_one _ | exact u8s_one _ | simp [Value.oneCell'])); clear E; intro u E0; have E := Lib.hid E0; clear E0) | ((with_reducible refine kn_alloc E.out rfl rfl ?_); clear E; intro g u E0 hb0; have E := Lib.hid E0; clear E0 hb0) | ((with_reducible refine kn_box E.out rfl rfl rfl ?_); clear E; intro g u E0 hb0; have E := Lib.hid E0; clear E0 hb0) | ((with_reducible refine kn_box_int E.out rfl rfl rfl ?_); clear E; intro g u E0 hb0; have E := Lib.hid E0; clear E0 hb0) | ((with_reducible refine kn_box_slice E.out rfl rfl rfl ?_); clear E; intro g u E0 hb0; have E := Lib.hid E0; clear E0 hb0) | ((with_reducible refine kn_box_bool E.out rfl rfl rfl ?_); clear E; intro g u E0 hb0; have E := Lib.hid E0; clear E0 hb0) | ((with_reducible refine kn_box_func E.out rfl rfl rfl ?_); clear E; intro g u E0 hb0; have E := Lib.hid E0; clear E0 hb0))
  go_ret2
  exact ⟨rfl, rfl⟩
theorem block_no {w u : World} {R : List Res} {F : List (World → Prop)} (gb ga gf : Nat) (A : Option Addr) (c P : Nat) (E0 : Kn w (wri gb ga gf A c P false R) F u) :
    Calls Tryd.prog 59 #[.pointer (some ⟨gf, 0, none⟩), .pointer (some ⟨gb, 0, none⟩)] u fun e u1 => e = .returned (.tuple #[.slice none 0 0, .int .i64 1]) ∧ u = u1 := by
  have E := Lib.hid E0
  unfold wri at E
  clear E0
  go_enter Tryd.func59, Tryd.ntmps59
  go_wp2_with (first | ((with_reducible refine kn_load E.out rfl rfl rfl rfl ?_)) | ((with_reducible refine kn_load_if E.out rfl rfl rfl rfl ?_)) | ((with_reducible refine kn_loads E.out rfl rfl rfl ?_ ?_); (focus (first | rfl | (simp only [i64s_length, u8s_length]; first | rfl | assumption | omega)))) | ((with_reducible refine kn_loads_if E.out rfl rfl rfl ?_ ?_); (focus (first | rfl | (simp only [i64s_length, u8s_length]; first | rfl | assumption | omega)))) | ((with_reducible refine kn_store1_int E.out rfl rfl rfl rfl rfl ?_); clear E; intro u E0; have E := Lib.hid E0; clear E0) | ((with_reducible refine kn_store1_slice E.out rfl rfl rfl rfl rfl ?_); clear E; intro u E0; have E := Lib.hid E0; clear E0) | ((with_reducible refine kn_store1_bool E.out rfl rfl rfl rfl rfl ?_); clear E; intro u E0; have E := Lib.hid E0; clear E0) | ((with_reducible refine kn_stores E.out rfl rfl rfl rfl rfl ?_ ?_ ?_); (focus (first | exact ⟨rfl, rfl⟩ | (simp only [i64s_length, u8s_length]; refine ⟨?_, ?_⟩ <;> first | rfl | assumption | omega))); (focus (first | exact i64s_one _ | exact u8s_one _ | simp [Value.oneCell'])); clear E; intro u E0; have E := Lib.hid E0; clear E0) | ((with_reducible refine kn_alloc E.out rfl rfl ?_); clear E; intro g u E0 hb0; have E := Lib.hid E0; clear E0 hb0) | ((with_reducible refine kn_box E.out rfl rfl rfl ?_); clear E; intro g u E0 hb0; have E := Lib.hid E0; clear E0 hb0) | ((with_reducible refine kn_box_int E.out rfl rfl rfl ?_); clear E; intro g u E0 hb0; have E := Lib.hid E0; clear E0 hb0) | ((with_reducible refine kn_box_slice E.out rfl rfl rfl ?_); clear E; intro g u E0 hb0; have E := Lib.hid E0; clear E0 hb0) | ((with_reducible refine kn_box_bool E.out rfl rfl rfl ?_); clear E; intro g u E0 hb0; have E := Lib.hid E0; clear E0 hb0) | ((with_reducible refine kn_box_func E.out rfl rfl rfl ?_); clear E; intro g u E0 hb0; have E := Lib.hid E0; clear E0 hb0))
  go_ret2
  exact ⟨rfl, rfl⟩
end Go.Proofs.YtnoailihkjccbaaDoor
