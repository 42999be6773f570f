/- E1Kn, E1JoinP, E1ColP: merged. -/
import Derived.Test.YtgcijioiicmjiaaDoorG6
import Derived.Test.YtgcijioiicmjiaaDoorE1Plain
import Derived.Test.YtgcijioiicmjiaaDoorOpenArr
import Derived.Test.YtgcijioiicmjiaaDoorG4
set_option linter.all false
namespace Go.Proofs.YtgcijioiicmjiaaDoor
open Go.RowKit
open Bi Lv Eo

instance : Aggr 48 26 := ⟨⟨_, Tryd.underlying48, rfl⟩, by kernel_rfl⟩
instance : Aggr 65 26 := ⟨⟨_, Tryd.underlying65, rfl⟩, by kernel_rfl⟩
instance : Aggr 34 3 := ⟨⟨_, Tryd.underlying34, rfl⟩, by kernel_rfl⟩
instance : Aggr 51 8 := ⟨⟨_, Tryd.underlying51, rfl⟩, by kernel_rfl⟩
instance : Aggr 110 8 := ⟨⟨_, Tryd.underlying110, rfl⟩, by kernel_rfl⟩
namespace Eo
def blk (d f : Bool) (Z : List Int) : List Value := .bool d :: .bool f :: i64s Z
theorem blk_length {d f : Bool} {Z : List Int} {n : Nat} (h : Z.length + 2 = n) : (blk d f Z).length = n := by unfold blk; simp [i64s_length]; exact h
theorem blk_one (d f : Bool) (Z : List Int) : ∀ v ∈ blk d f Z, v.oneCell' = true := by
  intro v hv
  unfold blk at hv
  rcases List.mem_cons.1 hv with rfl | hv
  · rfl
  · rcases List.mem_cons.1 hv with rfl | hv
    · rfl
    · exact i64s_one Z v hv
theorem blk_z (d f : Bool) (Z : List Int) {i j : Nat} (hj : j = i + 2) (h : i < Z.length) : (blk d f Z)[j]? = some (.int .i64 (Z.getD i 0)) := by
  subst hj
  exact i64s_get Z i h
theorem blk_set (d f : Bool) (Z : List Int) {i j : Nat} (hj : j = i + 2) (z : Int) : (blk d f Z).set j (.int .i64 z) = blk d f (Z.set i z) := by
  subst hj
  unfold blk
  rw [List.set_cons_succ, List.set_cons_succ, i64s_set]
theorem blk_part (d f : Bool) (Z : List Int) {i j m : Nat} (hj : j = i + 2) : ((blk d f Z).drop j).take m = i64s ((Z.drop i).take m) := by
  subst hj
  unfold blk
  rw [List.drop_succ_cons, List.drop_succ_cons, i64s_take, i64s_drop]
theorem spl_cons {α : Type} (ys : List α) : ∀ (x : α) (zs : List α) (o : Nat), spl (x :: zs) (o + 1) ys = x :: spl zs o ys := by
  induction ys with
  | nil => intros; rfl
  | cons y ys ih =>
    intro x zs o
    show spl ((x :: zs).set (o + 1) y) (o + 1 + 1) ys = x :: spl (zs.set o y) (o + 1) ys
    rw [List.set_cons_succ, ih]
theorem blk_spl (d f : Bool) (Z ys : List Int) {i j : Nat} (hj : j = i + 2) : spl (blk d f Z) j (i64s ys) = blk d f (spl Z i ys) := by
  subst hj
  unfold blk
  rw [spl_cons, spl_cons, i64s_spl]
end Eo
instance : ZeroV 48 (blk false false z24) := .of (by kernel_rfl)
instance : ZeroV 65 (blk false false z24) := .of (by kernel_rfl)
instance : ZeroV 51 (i64s [0, 0, 0, 0, 0, 0, 0, 0]) := .of (by kernel_rfl)
instance : ZeroV 110 (i64s [0, 0, 0, 0, 0, 0, 0, 0]) := .of (by kernel_rfl)
instance {d f : Bool} {Z : List Int} {R : List Res} {g : Nat} {t : TypeId} [H : NoU8 R] : NoU8 (.row g t (blk d f Z) :: R) := ⟨fun {B u} hr b hb i x hc => by
  rw [mem_blocks] at hb
  obtain ⟨r, hm, e⟩ := hb
  rcases List.mem_cons.1 hm with rfl | hm
  · have hrow : Row u g t (blk d f Z) := (hr _ List.mem_cons_self).2
    cases e
    rw [cell_of_row u g i _ _ (0, 0) hrow] at hc
    have hmem : Value.int .u8 x ∈ blk d f Z := by
      have := List.mem_of_getElem? (by simpa using hc)
      exact this
    simp [blk, i64s] at hmem
  · exact H.h (fun s hs => hr s (List.mem_cons_of_mem _ hs)) b (mem_blocks.2 ⟨r, hm, e⟩) i x hc⟩

section
variable {w u : World} {R R' : List Res} {F : List (World → Prop)} {ops : Array Oper} {rest : List Oper} {o : Oper} {a : Act} {Q : Exit → Act → World → Prop} {K : Act → World → Prop} {d f : Bool} {Z : List Int} {g : Nat} {t ty : TypeId} {x y : Operand}
theorem kn_bd (E : Kn w R F u) (hgd : o.guard = none) (ho : o.op = .load ty x) (hx : a.eval x = .pointer (some ⟨g, 0, none⟩)) [Sees R F g t (blk d f Z)] [Scal ty]
    (h : wpList Tryd.prog ops Q rest (a.put o.dst (.bool d)) u) : wpList Tryd.prog ops Q (o :: rest) a u := kn_load (vs := blk d f Z) E hgd ho hx rfl h
theorem kn_bf (E : Kn w R F u) (hgd : o.guard = none) (ho : o.op = .load ty x) (hx : a.eval x = .pointer (some ⟨g, 1, none⟩)) [Sees R F g t (blk d f Z)] [Scal ty]
    (h : wpList Tryd.prog ops Q rest (a.put o.dst (.bool f)) u) : wpList Tryd.prog ops Q (o :: rest) a u := kn_load (vs := blk d f Z) E hgd ho hx rfl h
theorem kn_bd_if (E : Kn w R F u) (hw : Region.wanted o (yielded ops a.tmps) = true) (ho : o.op = .load ty x) (hx : a.eval x = .pointer (some ⟨g, 0, none⟩)) [Sees R F g t (blk d f Z)] [Scal ty]
    (h : wpList Tryd.prog ops Q rest (a.put o.dst (.bool d)) u) : wpList Tryd.prog ops Q (o :: rest) a u := kn_load_if (vs := blk d f Z) E hw ho hx rfl h
theorem kn_bz (E : Kn w R F u) (hgd : o.guard = none) (ho : o.op = .load ty x) {i j : Nat} (hx : a.eval x = .pointer (some ⟨g, j, none⟩)) [Sees R F g t (blk d f Z)] [Scal ty] (hj : j = i + 2) (hi : i < Z.length)
    (h : wpList Tryd.prog ops Q rest (a.put o.dst (.int .i64 (Z.getD i 0))) u) : wpList Tryd.prog ops Q (o :: rest) a u := kn_load E hgd ho hx (blk_z d f Z hj hi) h
theorem kn_ball (E : Kn w R F u) (hgd : o.guard = none) (ho : o.op = .load ty x) (hx : a.eval x = .pointer (some ⟨g, 0, none⟩)) [Sees R F g t (blk d f Z)] [Aggr ty 26] (hZ : Z.length = 24)
    (h : wpList Tryd.prog ops Q rest (a.put o.dst (.agg (blk d f Z).toArray)) u) : wpList Tryd.prog ops Q (o :: rest) a u := kn_loads E hgd ho hx (blk_length (by omega)) h
theorem kn_bp (E : Kn w R F u) (hgd : o.guard = none) (ho : o.op = .load ty x) {i j m : Nat} (hx : a.eval x = .pointer (some ⟨g, j, none⟩)) [Sees R F g t (blk d f Z)] [Aggr ty m] (hj : j = i + 2) (hl : i + m ≤ Z.length)
    (h : wpList Tryd.prog ops Q rest (a.put o.dst (arr ((Z.drop i).take m))) u) : wpList Tryd.prog ops Q (o :: rest) a u :=
  kn_loadv E hgd ho hx (blk_part d f Z hj) (by rw [i64s_length, List.length_take, List.length_drop]; omega) h
theorem wp_kn_bput (E : Kn w R F u) (ho : o.op = .store ty x y) (hd : o.dst = none) {i j : Nat} (hx : a.eval x = .pointer (some ⟨g, j, none⟩)) {z : Int} (hy : a.eval y = .int .i64 z) [H : HasRow R g t (blk d f Z)] [S : Scal ty] (hj : j = i + 2) (hi : i < Z.length)
    [T : Turn R (.row g t (blk d f Z)) (.row g t (blk d f (Z.set i z))) R'] (h : ∀ u', Kn w R' F u' → K a u') : o.wp Tryd.prog a u K Q := by
  have T' : Turn R (.row g t (blk d f Z)) (.row g t ((blk d f Z).set j (.int .i64 z))) R' := by rw [blk_set d f Z hj]; exact T
  exact wp_kn_store (T := T') E ho hd hx hy rfl (by rw [blk_length rfl]; omega) h
theorem kn_bput (E : Kn w R F u) (hgd : o.guard = none) (ho : o.op = .store ty x y) (hd : o.dst = none) {i j : Nat} (hx : a.eval x = .pointer (some ⟨g, j, none⟩)) {z : Int} (hy : a.eval y = .int .i64 z) [H : HasRow R g t (blk d f Z)] [S : Scal ty] (hj : j = i + 2) (hi : i < Z.length)
    [T : Turn R (.row g t (blk d f Z)) (.row g t (blk d f (Z.set i z))) R'] (h : ∀ u', Kn w R' F u' → wpList Tryd.prog ops Q rest a u') : wpList Tryd.prog ops Q (o :: rest) a u :=
  wpList_plain hgd fun _ hK => wp_kn_bput E ho hd hx hy hj hi fun u' E' => hK _ _ (h u' E')
theorem kn_bputd (E : Kn w R F u) (hgd : o.guard = none) (ho : o.op = .store ty x y) (hd : o.dst = none) (hx : a.eval x = .pointer (some ⟨g, 0, none⟩)) {b : Bool} (hy : a.eval y = .bool b) [H : HasRow R g t (blk d f Z)] [S : Scal ty]
    [T : Turn R (.row g t (blk d f Z)) (.row g t (blk b f Z)) R'] (h : ∀ u', Kn w R' F u' → wpList Tryd.prog ops Q rest a u') : wpList Tryd.prog ops Q (o :: rest) a u :=
  kn_store (T := (show Turn R (.row g t (blk d f Z)) (.row g t ((blk d f Z).set 0 (.bool b))) R' from T)) E hgd ho hd hx hy rfl (by rw [blk_length rfl]; omega) h
theorem kn_bputf (E : Kn w R F u) (hgd : o.guard = none) (ho : o.op = .store ty x y) (hd : o.dst = none) (hx : a.eval x = .pointer (some ⟨g, 1, none⟩)) {b : Bool} (hy : a.eval y = .bool b) [H : HasRow R g t (blk d f Z)] [S : Scal ty]
    [T : Turn R (.row g t (blk d f Z)) (.row g t (blk d b Z)) R'] (h : ∀ u', Kn w R' F u' → wpList Tryd.prog ops Q rest a u') : wpList Tryd.prog ops Q (o :: rest) a u :=
  kn_store (T := (show Turn R (.row g t (blk d f Z)) (.row g t ((blk d f Z).set 1 (.bool b))) R' from T)) E hgd ho hd hx hy rfl (by rw [blk_length rfl]; omega) h
theorem kn_bputp (E : Kn w R F u) (hgd : o.guard = none) (ho : o.op = .store ty x y) (hd : o.dst = none) {i j : Nat} (hx : a.eval x = .pointer (some ⟨g, j, none⟩)) {ys : List Int} (hy : a.eval y = arr ys) [H : HasRow R g t (blk d f Z)] {m : Nat} [A : Aggr ty m] (hj : j = i + 2) (hl : ys.length = m) (hm : i + m ≤ Z.length)
    [T : Turn R (.row g t (blk d f Z)) (.row g t (blk d f (spl Z i ys))) R'] (h : ∀ u', Kn w R' F u' → wpList Tryd.prog ops Q rest a u') : wpList Tryd.prog ops Q (o :: rest) a u :=
  kn_storev (T := T) E hgd ho hd hx hy (by rw [i64s_length]; exact hl) (by rw [blk_length rfl]; omega) (i64s_one ys) (blk_spl d f Z ys hj) h
/-- A whole block. -/
theorem kn_bputall (E : Kn w R F u) (hgd : o.guard = none) (ho : o.op = .store ty x y) (hd : o.dst = none) (hx : a.eval x = .pointer (some ⟨g, 0, none⟩)) {d' f' : Bool} {Z' : List Int} (hy : a.eval y = .agg (blk d' f' Z').toArray) [H : HasRow R g t (blk d f Z)] [A : Aggr ty 26] (hZ : Z.length = 24) (hZ' : Z'.length = 24)
    [T : Turn R (.row g t (blk d f Z)) (.row g t (blk d' f' Z')) R'] (h : ∀ u', Kn w R' F u' → wpList Tryd.prog ops Q rest a u') : wpList Tryd.prog ops Q (o :: rest) a u :=
  kn_stores (T := T) E hgd ho hd hx hy ⟨blk_length (by omega), blk_length (by omega)⟩ (blk_one _ _ _) h
end

/-! Blocks made of their fields, and compared. -/
theorem built_b2 (d f : Bool) (u : World) : (Instr.build 48 #[(0, .bool d), (1, .bool f)]).run Tryd.prog u = .ok (.agg (blk d f z24).toArray) u := run_build u _ _ _ (by kernel_rfl)
theorem list24 {α : Type} (l : List α) (h : l.length = 24) : ∃ a0 a1 a2 a3 a4 a5 a6 a7 a8 a9 a10 a11 a12 a13 a14 a15 a16 a17 a18 a19 a20 a21 a22 a23, l = [a0, a1, a2, a3, a4, a5, a6, a7, a8, a9, a10, a11, a12, a13, a14, a15, a16, a17, a18, a19, a20, a21, a22, a23] := by
  match l, h with
  | [a0, a1, a2, a3, a4, a5, a6, a7, a8, a9, a10, a11, a12, a13, a14, a15, a16, a17, a18, a19, a20, a21, a22, a23], _ => exact ⟨a0, a1, a2, a3, a4, a5, a6, a7, a8, a9, a10, a11, a12, a13, a14, a15, a16, a17, a18, a19, a20, a21, a22, a23, rfl⟩
/-! A block as an argument. -/
end Go.Proofs.YtgcijioiicmjiaaDoor
set_option linter.all false
namespace Go.Proofs.YtgcijioiicmjiaaDoor
open Bi Lv
namespace Eo
open Bc (z8 z8_lt)

/-- A block's bits. -/
def jG (d f : Bool) (Z : List Int) (i : Nat) : Bool :=
  if i < 24 then (if i % 8 < w1 d then (Z.getD (i / 8) 0).toNat.testBit (w1 d - 1 - i % 8) else (Z.getD (3 + i / 8) 0 % ((2 ^ w2 d : Nat) : Int)).toNat.testBit (7 - i % 8))
  else if i < 30 then (Z.getD (6 + (i - 24) / 3) 0).toNat.testBit (2 - (i - 24) % 3)
  else if i = 30 then d else if i = 31 then f
  else if i < 48 then (Z.getD (8 + pos (47 - i)) 0).toNat.testBit 1
  else (Z.getD (8 + pos (63 - i)) 0).toNat.testBit 0
/-- The bytes with the bits of S laid. -/
def lz (g S : Nat → Bool) : List Nat := lay z8 true 0 64 fun i => S i && g i
theorem lz_length (g S : Nat → Bool) : (lz g S).length = 8 := by unfold lz; rw [lay_length]; rfl
theorem lz_lt (g S : Nat → Bool) : ∀ x ∈ lz g S, x < 256 := lay_lt _ _ _ _ _
theorem lz_bit (g S : Nat → Bool) (i : Nat) (h : i < 64) : bt (lz g S) true i = (S i && g i) := by
  unfold lz
  rw [lay_bit _ _ _ _ _ _ (by show i < 8 * 8; omega), if_pos (by omega), Nat.sub_zero]
theorem lz_zero (g : Nat → Bool) : lz g (sN 0) = z8 := by
  refine ext_bits true (by rw [lz_length]; rfl) (lz_lt _ _) z8_lt fun i hi => ?_
  rw [lz_length] at hi
  have hz : bt z8 true i = false := by
    have h0 : ∀ j, j < 64 → bt z8 true j = false := by decide +kernel
    exact h0 i (by omega)
  rw [lz_bit _ _ _ (by omega), hz]
  simp [sN]
theorem lz_st (g : Nat → Bool) {S S' : Nat → Bool} {p m N : Nat} (hp : p + m ≤ 64) (hN : ∀ k, k < m → N.testBit (m - 1 - k) = g (p + k)) (h : ∀ i, i < 64 → S' i = (S i || decide (p ≤ i ∧ i < p + m))) : st (lz g S) true p m N = lz g S' := by
  refine ext_bits true (by unfold st; rw [lay_length, lz_length, lz_length]) (st_lt _ _ _ _ _) (lz_lt _ _) fun i hi => ?_
  have hi' : i < 8 * (lz g S).length := by unfold st at hi; rwa [lay_length] at hi
  have h64 : i < 64 := by rw [lz_length] at hi'; omega
  unfold st
  rw [lay_bit _ _ _ _ _ _ hi', lz_bit _ _ _ h64, lz_bit _ _ _ h64, h i h64]
  by_cases h1 : p ≤ i ∧ i < p + m
  · rw [if_pos h1]
    simp only [if_true, hN (i - p) (by omega), show p + (i - p) = i by omega, h1, and_self, decide_true, Bool.or_true, Bool.true_and]
  · rw [if_neg h1]
    simp [h1]
/-- The texels' bits, one texel after another. -/
def sL (m i : Nat) : Bool := decide (i < 32 ∨ (i < 48 ∧ pos (47 - i) < m) ∨ (48 ≤ i ∧ pos (63 - i) < m))
def sM (m i : Nat) : Bool := sL m i || decide (i = 47 - pos m)
def lL (g : Nat → Bool) (m : Nat) : List Nat := lz g (sL m)
/-- The block. -/
def jB (d f : Bool) (Z : List Int) : List Nat := lay z8 true 0 64 (jG d f Z)
def jV (d f : Bool) (Z : List Int) : List Nat := if okP d Z then jB d f Z else []
def jE (d : Bool) (Z : List Int) : Int := if okP d Z then 0 else 1
theorem jV_ok {d f : Bool} {Z : List Int} (h : okP d Z) : jV d f Z = jB d f Z := if_pos h
theorem jV_no {d f : Bool} {Z : List Int} (h : ¬ okP d Z) : jV d f Z = [] := if_neg h
theorem jE_ok {d : Bool} {Z : List Int} (h : okP d Z) : jE d Z = 0 := if_pos h
theorem jE_no {d : Bool} {Z : List Int} (h : ¬ okP d Z) : jE d Z = 1 := if_neg h

end Eo
end Go.Proofs.YtgcijioiicmjiaaDoor
set_option linter.all false
namespace Go.Proofs.YtgcijioiicmjiaaDoor
open Bi Lv
namespace Eo

/-! Tables and halves. -/
def numL : List Int := [2, 8, 5, 17, 9, 29, 13, 42, 18, 60, 24, 80, 33, 106, 47, 183]
def tab4 (k : Nat) : List Int := [numL.getD (2 * k) 0, numL.getD (2 * k + 1) 0, -numL.getD (2 * k) 0, -numL.getD (2 * k + 1) 0]
def tabV (n : Int) : List Int := tab4 (n % 8).toNat
theorem tabV_length (n : Int) : (tabV n).length = 4 := rfl
theorem tab4_bd : ∀ k, k < 8 → ∀ i, i < 4 → -183 ≤ (tab4 k).getD i 0 ∧ (tab4 k).getD i 0 ≤ 183 := by decide
theorem tabV_bd (n : Int) (i : Nat) : -183 ≤ (tabV n).getD i 0 ∧ (tabV n).getD i 0 ≤ 183 := by
  rcases Nat.lt_or_ge i 4 with h | h
  · exact tab4_bd _ (by omega) i h
  · rw [List.getD_eq_getElem?_getD, List.getElem?_eq_none (by rw [tabV_length]; exact h)]; decide
def halfV (f : Bool) (t : Int) : Int := if f = true then t % 16 / 8 else t % 16 % 4 / 2
def halfN (f : Bool) (i : Nat) : Nat := if f = true then i / 8 else i % 4 / 2
theorem halfN_lt (f : Bool) {i : Nat} (h : i < 16) : halfN f i < 2 := by unfold halfN; split <;> omega
theorem halfV_nat (f : Bool) {i : Nat} (h : i < 16) : halfV f (i : Int) = ((halfN f i : Nat) : Int) := by
  unfold halfV halfN; split <;> omega
/-! The two colours. -/
def seV (d : Bool) (Z : List Int) (c : Nat) : Int := if d = true then Z.getD (3 + c) 0 + Z.getD c 0 else Z.getD (3 + c) 0
def baE (d : Bool) (Z : List Int) (j : Nat) : Int := if j % 4 = 3 then 255 else if j < 4 then wideV (Z.getD j 0) (w1 d : Int) else wideV (seV d Z (j - 4)) (w1 d : Int)
def bS (d : Bool) (Z : List Int) (S : Nat → Bool) : List Int := (List.range 8).map fun j => if j % 4 = 3 then 255 else if S (j % 4) then baE d Z j else 0
def baV (d : Bool) (Z : List Int) : List Int := (List.range 8).map (baE d Z)
theorem bS_length (d : Bool) (Z : List Int) (S : Nat → Bool) : (bS d Z S).length = 8 := by simp [bS]
theorem baV_length (d : Bool) (Z : List Int) : (baV d Z).length = 8 := by simp [baV]
theorem bS_getD (d : Bool) (Z : List Int) (S : Nat → Bool) (j : Nat) (h : j < 8) : (bS d Z S).getD j 0 = if j % 4 = 3 then 255 else if S (j % 4) then baE d Z j else 0 := by simp [bS, h]
theorem baV_getD (d : Bool) (Z : List Int) (j : Nat) (h : j < 8) : (baV d Z).getD j 0 = baE d Z j := by simp [baV, h]
theorem baE_bd (d : Bool) (Z : List Int) (j : Nat) : 0 ≤ baE d Z j ∧ baE d Z j ≤ 255 := by
  have h1 := wideV_bd (Z.getD j 0) (w1 d : Int)
  have h2 := wideV_bd (seV d Z (j - 4)) (w1 d : Int)
  unfold baE
  split
  · omega
  · split <;> omega
theorem baV_bd (d : Bool) (Z : List Int) (j : Nat) : 0 ≤ (baV d Z).getD j 0 ∧ (baV d Z).getD j 0 ≤ 255 := by
  rcases Nat.lt_or_ge j 8 with h | h
  · rw [baV_getD _ _ _ h]; exact baE_bd d Z j
  · rw [List.getD_eq_getElem?_getD, List.getElem?_eq_none (by rw [baV_length]; exact h)]; decide
theorem bS_none (d : Bool) (Z : List Int) (S : Nat → Bool) (h : ∀ j, j < 3 → S j = false) : bS d Z S = [0, 0, 0, 255, 0, 0, 0, 255] := by
  refine getD_ext (by rw [bS_length]; rfl) fun j hj => ?_
  rw [bS_length] at hj
  rw [bS_getD _ _ _ _ hj]
  by_cases h3 : j % 4 = 3
  · rw [if_pos h3]
    obtain rfl | rfl : j = 3 ∨ j = 7 := by omega
    all_goals rfl
  · rw [if_neg h3, h _ (by omega), if_neg (by simp)]
    obtain rfl | rfl | rfl | rfl | rfl | rfl : j = 0 ∨ j = 1 ∨ j = 2 ∨ j = 4 ∨ j = 5 ∨ j = 6 := by omega
    all_goals rfl
theorem bS_full (d : Bool) (Z : List Int) (S : Nat → Bool) (h : ∀ j, j < 3 → S j = true) : bS d Z S = baV d Z := by
  refine getD_ext (by rw [bS_length, baV_length]) fun j hj => ?_
  rw [bS_length] at hj
  rw [bS_getD _ _ _ _ hj, baV_getD _ _ _ hj]
  by_cases h3 : j % 4 = 3
  · rw [if_pos h3]; unfold baE; rw [if_pos h3]
  · rw [if_neg h3, h _ (by omega), if_pos rfl]
theorem bS_set (d : Bool) (Z : List Int) {S S' : Nat → Bool} {c : Nat} (hc : c < 3) (a b : Int) (ha : a = wideV (Z.getD c 0) (w1 d : Int)) (hb : b = wideV (seV d Z c) (w1 d : Int)) (h : ∀ j, j < 3 → S' j = (S j || decide (j = c))) :
    ((bS d Z S).set c a).set (4 + c) b = bS d Z S' := by
  refine getD_ext (by simp [bS_length]) fun j hj => ?_
  rw [List.length_set, List.length_set, bS_length] at hj
  rw [getD_seti _ _ _ _ (by rw [List.length_set, bS_length]; omega), getD_seti _ _ _ _ (by rw [bS_length]; omega), bS_getD _ _ _ _ hj, bS_getD _ _ _ _ hj]
  by_cases h3 : j % 4 = 3
  · rw [if_pos h3, if_pos h3, if_neg (by omega), if_neg (by omega)]
  · rw [if_neg h3, if_neg h3, h _ (by omega)]
    by_cases h4 : j = 4 + c
    · subst h4
      rw [if_pos rfl]
      simp only [show (4 + c) % 4 = c from by omega, decide_true, Bool.or_true, if_true]
      unfold baE
      rw [if_neg (by omega), if_neg (by omega), show 4 + c - 4 = c by omega]
      exact hb
    · rw [if_neg h4]
      by_cases h5 : j = c
      · subst h5
        rw [if_pos rfl]
        simp only [show j % 4 = j from by omega, decide_true, Bool.or_true, if_true]
        unfold baE
        rw [if_neg (by omega), if_pos (by omega)]
        exact ha
      · rw [if_neg h5]
        have e : decide (j % 4 = c) = false := by simp; omega
        rw [e, Bool.or_false]
def sU (c j : Nat) : Bool := decide (j < c)
/-- Does a difference go too far? -/
def oob (d : Bool) (Z : List Int) (c : Nat) : Bool := d && !decide (0 ≤ seV d Z c ∧ seV d Z c < 32)
def farP (d : Bool) (Z : List Int) : Nat → Nat
  | 0 => 3
  | c + 1 => if farP d Z c = 3 ∧ oob d Z c = true then c else farP d Z c
theorem farP_le (d : Bool) (Z : List Int) : ∀ c, c ≤ 3 → farP d Z c ≤ 3
  | 0, _ => Nat.le_refl _
  | c + 1, h => by rw [farP]; split; omega; exact farP_le d Z c (by omega)
theorem farP_no (Z : List Int) : ∀ c, farP false Z c = 3
  | 0 => rfl
  | c + 1 => by rw [farP, if_neg (by simp [oob]), farP_no Z c]
/-! Texels. -/
def addV (t : List Int) (n : Int) : List Int := [clampV (t.getD 0 0 + n) 255, clampV (t.getD 1 0 + n) 255, clampV (t.getD 2 0 + n) 255, t.getD 3 0]
def addP (t : List Int) (n : Int) : Nat → List Int
  | 0 => t
  | c + 1 => (addP t n c).set c (clampV (t.getD c 0 + n) 255)
theorem addP_length (t : List Int) (n : Int) : ∀ c, (addP t n c).length = t.length
  | 0 => rfl
  | c + 1 => by rw [addP, List.length_set, addP_length t n c]
theorem addP_getD (t : List Int) (n : Int) : ∀ c j, c ≤ t.length → (addP t n c).getD j 0 = if j < c then clampV (t.getD j 0 + n) 255 else t.getD j 0
  | 0, j, _ => by simp [addP]
  | c + 1, j, h => by
    rw [addP, getD_seti _ _ _ _ (by rw [addP_length]; omega)]
    by_cases hj : j = c
    · subst hj; rw [if_pos rfl, if_pos (by omega)]
    · rw [if_neg hj, addP_getD t n c j (by omega)]
      by_cases h1 : j < c
      · rw [if_pos h1, if_pos (by omega)]
      · rw [if_neg h1, if_neg (by omega)]
theorem addP_full (t : List Int) (n : Int) (h : t.length = 4) : addP t n 3 = addV t n := by
  refine getD_ext (by rw [addP_length, h]; rfl) fun j hj => ?_
  rw [addP_length, h] at hj
  rw [addP_getD _ _ _ _ (by omega)]
  obtain rfl | rfl | rfl | rfl : j = 0 ∨ j = 1 ∨ j = 2 ∨ j = 3 := by omega
  all_goals rfl
/-- Rows of four numbers, the first k of them laid over z. -/
def fl (z : List Int) (f : Nat → List Int) : Nat → List Int
  | 0 => z
  | k + 1 => spl (fl z f k) (k * 4) (f k)
theorem fl_length (z : List Int) (f : Nat → List Int) : ∀ k, (fl z f k).length = z.length
  | 0 => rfl
  | k + 1 => by rw [fl, spl_length, fl_length z f k]
theorem fl_getD (z : List Int) (f : Nat → List Int) (hf : ∀ i, (f i).length = 4) : ∀ k, k * 4 ≤ z.length → ∀ j, (fl z f k).getD j 0 = if j / 4 < k then (f (j / 4)).getD (j % 4) 0 else z.getD j 0
  | 0, _, j => by simp [fl]
  | k + 1, h, j => by
    rw [fl, spl_getD _ _ _ _ (by rw [fl_length, hf]; omega), hf]
    by_cases h1 : k * 4 ≤ j ∧ j < k * 4 + 4
    · rw [if_pos h1, if_pos (by omega), show j / 4 = k by omega, show j - k * 4 = j % 4 by omega]
    · rw [if_neg h1, fl_getD z f hf k (by omega)]
      by_cases h2 : j / 4 < k
      · rw [if_pos h2, if_pos (by omega)]
      · rw [if_neg h2, if_neg (by omega)]
theorem fl_row (z : List Int) (f : Nat → List Int) (hf : ∀ i, (f i).length = 4) (n : Nat) (hn : n * 4 ≤ z.length) (i : Nat) (hi : i < n) : ((fl z f n).drop (i * 4)).take 4 = f i := by
  refine getD_ext (by rw [List.length_take, List.length_drop, fl_length, hf]; omega) fun j hj => ?_
  have hj4 : j < 4 := by rw [List.length_take] at hj; omega
  have e : (((fl z f n).drop (i * 4)).take 4).getD j 0 = (fl z f n).getD (i * 4 + j) 0 := by
    rw [List.getD_eq_getElem?_getD, List.getElem?_take, if_pos hj4, List.getElem?_drop, ← List.getD_eq_getElem?_getD]
  rw [e, fl_getD z f hf n hn, if_pos (by omega), show (i * 4 + j) / 4 = i by omega, show (i * 4 + j) % 4 = j by omega]
def z64 : List Int := List.replicate 64 0
theorem z64_length : z64.length = 64 := by simp [z64]
def bRow (d : Bool) (Z : List Int) (h : Nat) : List Int := ((baV d Z).drop (h * 4)).take 4
theorem bRow_length (d : Bool) (Z : List Int) (h : Nat) (hh : h < 2) : (bRow d Z h).length = 4 := by
  unfold bRow; rw [List.length_take, List.length_drop, baV_length]; omega
theorem bRow_bd (d : Bool) (Z : List Int) (h : Nat) (j : Nat) : 0 ≤ (bRow d Z h).getD j 0 ∧ (bRow d Z h).getD j 0 ≤ 255 := by
  have hb := baV_bd d Z (h * 4 + j)
  unfold bRow
  rw [List.getD_eq_getElem?_getD, List.getElem?_take]
  split
  · rw [List.getElem?_drop, ← List.getD_eq_getElem?_getD]; exact hb
  · decide
/-- What is added at texel i; its colour; all of them. -/
def numV (f : Bool) (Z : List Int) (i : Nat) : Int := (tabV (Z.getD (6 + halfN f i) 0)).getD (Z.getD (8 + i) 0).toNat 0
def txV (d f : Bool) (Z : List Int) (i : Nat) : List Int := addV (bRow d Z (halfN f i)) (numV f Z i)
theorem txV_length (d f : Bool) (Z : List Int) (i : Nat) : (txV d f Z i).length = 4 := rfl
def paV (d f : Bool) (Z : List Int) : List Int := fl z64 (txV d f Z) 16
theorem paV_length (d f : Bool) (Z : List Int) : (paV d f Z).length = 64 := by rw [paV, fl_length]; exact z64_length
/-! Bytes. -/
/-! Columns as rows. -/
end Eo
end Go.Proofs.YtgcijioiicmjiaaDoor
