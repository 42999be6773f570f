/- A block of two halves as a row of cells: made, read, written, compared, taken as an argument. -/
import Derived.Test.YtjlkdmdepdoanaaDoorG6
import Derived.Test.YtjlkdmdepdoanaaDoorE1Plain
import Derived.Test.YtjlkdmdepdoanaaDoorOpenArr
set_option linter.all false
namespace Go.Proofs.YtjlkdmdepdoanaaDoor
open Go.RowKit
open Bi Lv Eo

instance : Aggr 28 26 := ⟨⟨_, Tryd.underlying28, rfl⟩, by kernel_rfl⟩
instance : Aggr 32 26 := ⟨⟨_, Tryd.underlying32, rfl⟩, by kernel_rfl⟩
instance : Aggr 24 3 := ⟨⟨_, Tryd.underlying24, rfl⟩, by kernel_rfl⟩
instance : Aggr 49 8 := ⟨⟨_, Tryd.underlying49, rfl⟩, by kernel_rfl⟩
instance : Aggr 79 8 := ⟨⟨_, Tryd.underlying79, rfl⟩, by kernel_rfl⟩
namespace Eo
def blk (d f : Bool) (Z : List Int) : List Value := .bool d :: .bool f :: i64s Z
theorem blk_length {d f : Bool} {Z : List Int} {n : Nat} (h : Z.length + 2 = n) : (blk d f Z).length = n := by unfold blk; simp [i64s_length]; exact h
theorem blk_one (d f : Bool) (Z : List Int) : ∀ v ∈ blk d f Z, v.oneCell' = true := by
  intro v hv
  unfold blk at hv
  rcases List.mem_cons.1 hv with rfl | hv
  · rfl
  · rcases List.mem_cons.1 hv with rfl | hv
    · rfl
    · exact i64s_one Z v hv
theorem blk_z (d f : Bool) (Z : List Int) {i j : Nat} (hj : j = i + 2) (h : i < Z.length) : (blk d f Z)[j]? = some (.int .i64 (Z.getD i 0)) := by
  subst hj
  exact i64s_get Z i h
theorem blk_set (d f : Bool) (Z : List Int) {i j : Nat} (hj : j = i + 2) (z : Int) : (blk d f Z).set j (.int .i64 z) = blk d f (Z.set i z) := by
  subst hj
  unfold blk
  rw [List.set_cons_succ, List.set_cons_succ, i64s_set]
theorem blk_part (d f : Bool) (Z : List Int) {i j m : Nat} (hj : j = i + 2) : ((blk d f Z).drop j).take m = i64s ((Z.drop i).take m) := by
  subst hj
  unfold blk
  rw [List.drop_succ_cons, List.drop_succ_cons, i64s_take, i64s_drop]
theorem spl_cons {α : Type} (ys : List α) : ∀ (x : α) (zs : List α) (o : Nat), spl (x :: zs) (o + 1) ys = x :: spl zs o ys := by
  induction ys with
  | nil => intros; rfl
  | cons y ys ih =>
    intro x zs o
    show spl ((x :: zs).set (o + 1) y) (o + 1 + 1) ys = x :: spl (zs.set o y) (o + 1) ys
    rw [List.set_cons_succ, ih]
theorem blk_spl (d f : Bool) (Z ys : List Int) {i j : Nat} (hj : j = i + 2) : spl (blk d f Z) j (i64s ys) = blk d f (spl Z i ys) := by
  subst hj
  unfold blk
  rw [spl_cons, spl_cons, i64s_spl]
end Eo
instance : ZeroV 28 (blk false false z24) := .of (by kernel_rfl)
instance : ZeroV 32 (blk false false z24) := .of (by kernel_rfl)
instance : ZeroV 49 (i64s [0, 0, 0, 0, 0, 0, 0, 0]) := .of (by kernel_rfl)
instance : ZeroV 79 (i64s [0, 0, 0, 0, 0, 0, 0, 0]) := .of (by kernel_rfl)
instance {d f : Bool} {Z : List Int} {R : List Res} {g : Nat} {t : TypeId} [H : NoU8 R] : NoU8 (.row g t (blk d f Z) :: R) := ⟨fun {B u} hr b hb i x hc => by
  rw [mem_blocks] at hb
  obtain ⟨r, hm, e⟩ := hb
  rcases List.mem_cons.1 hm with rfl | hm
  · have hrow : Row u g t (blk d f Z) := (hr _ List.mem_cons_self).2
    cases e
    rw [cell_of_row u g i _ _ (0, 0) hrow] at hc
    have hmem : Value.int .u8 x ∈ blk d f Z := by
      have := List.mem_of_getElem? (by simpa using hc)
      exact this
    simp [blk, i64s] at hmem
  · exact H.h (fun s hs => hr s (List.mem_cons_of_mem _ hs)) b (mem_blocks.2 ⟨r, hm, e⟩) i x hc⟩

section
variable {w u : World} {R R' : List Res} {F : List (World → Prop)} {ops : Array Oper} {rest : List Oper} {o : Oper} {a : Act} {Q : Exit → Act → World → Prop} {K : Act → World → Prop} {d f : Bool} {Z : List Int} {g : Nat} {t ty : TypeId} {x y : Operand}
theorem kn_bd (E : Kn w R F u) (hgd : o.guard = none) (ho : o.op = .load ty x) (hx : a.eval x = .pointer (some ⟨g, 0, none⟩)) [Sees R F g t (blk d f Z)] [Scal ty]
    (h : wpList Tryd.prog ops Q rest (a.put o.dst (.bool d)) u) : wpList Tryd.prog ops Q (o :: rest) a u := kn_load (vs := blk d f Z) E hgd ho hx rfl h
theorem kn_bf (E : Kn w R F u) (hgd : o.guard = none) (ho : o.op = .load ty x) (hx : a.eval x = .pointer (some ⟨g, 1, none⟩)) [Sees R F g t (blk d f Z)] [Scal ty]
    (h : wpList Tryd.prog ops Q rest (a.put o.dst (.bool f)) u) : wpList Tryd.prog ops Q (o :: rest) a u := kn_load (vs := blk d f Z) E hgd ho hx rfl h
theorem kn_bd_if (E : Kn w R F u) (hw : Region.wanted o (yielded ops a.tmps) = true) (ho : o.op = .load ty x) (hx : a.eval x = .pointer (some ⟨g, 0, none⟩)) [Sees R F g t (blk d f Z)] [Scal ty]
    (h : wpList Tryd.prog ops Q rest (a.put o.dst (.bool d)) u) : wpList Tryd.prog ops Q (o :: rest) a u := kn_load_if (vs := blk d f Z) E hw ho hx rfl h
theorem kn_bz (E : Kn w R F u) (hgd : o.guard = none) (ho : o.op = .load ty x) {i j : Nat} (hx : a.eval x = .pointer (some ⟨g, j, none⟩)) [Sees R F g t (blk d f Z)] [Scal ty] (hj : j = i + 2) (hi : i < Z.length)
    (h : wpList Tryd.prog ops Q rest (a.put o.dst (.int .i64 (Z.getD i 0))) u) : wpList Tryd.prog ops Q (o :: rest) a u := kn_load E hgd ho hx (blk_z d f Z hj hi) h
theorem kn_bz_if (E : Kn w R F u) (hw : Region.wanted o (yielded ops a.tmps) = true) (ho : o.op = .load ty x) {i j : Nat} (hx : a.eval x = .pointer (some ⟨g, j, none⟩)) [Sees R F g t (blk d f Z)] [Scal ty] (hj : j = i + 2) (hi : i < Z.length)
    (h : wpList Tryd.prog ops Q rest (a.put o.dst (.int .i64 (Z.getD i 0))) u) : wpList Tryd.prog ops Q (o :: rest) a u := kn_load_if E hw ho hx (blk_z d f Z hj hi) h
theorem kn_ball (E : Kn w R F u) (hgd : o.guard = none) (ho : o.op = .load ty x) (hx : a.eval x = .pointer (some ⟨g, 0, none⟩)) [Sees R F g t (blk d f Z)] [Aggr ty 26] (hZ : Z.length = 24)
    (h : wpList Tryd.prog ops Q rest (a.put o.dst (.agg (blk d f Z).toArray)) u) : wpList Tryd.prog ops Q (o :: rest) a u := kn_loads E hgd ho hx (blk_length (by omega)) h
theorem kn_ball_if (E : Kn w R F u) (hw : Region.wanted o (yielded ops a.tmps) = true) (ho : o.op = .load ty x) (hx : a.eval x = .pointer (some ⟨g, 0, none⟩)) [Sees R F g t (blk d f Z)] [Aggr ty 26] (hZ : Z.length = 24)
    (h : wpList Tryd.prog ops Q rest (a.put o.dst (.agg (blk d f Z).toArray)) u) : wpList Tryd.prog ops Q (o :: rest) a u := kn_loads_if E hw ho hx (blk_length (by omega)) h
theorem kn_bp (E : Kn w R F u) (hgd : o.guard = none) (ho : o.op = .load ty x) {i j m : Nat} (hx : a.eval x = .pointer (some ⟨g, j, none⟩)) [Sees R F g t (blk d f Z)] [Aggr ty m] (hj : j = i + 2) (hl : i + m ≤ Z.length)
    (h : wpList Tryd.prog ops Q rest (a.put o.dst (arr ((Z.drop i).take m))) u) : wpList Tryd.prog ops Q (o :: rest) a u :=
  kn_loadv E hgd ho hx (blk_part d f Z hj) (by rw [i64s_length, List.length_take, List.length_drop]; omega) h
theorem wp_kn_bput (E : Kn w R F u) (ho : o.op = .store ty x y) (hd : o.dst = none) {i j : Nat} (hx : a.eval x = .pointer (some ⟨g, j, none⟩)) {z : Int} (hy : a.eval y = .int .i64 z) [H : HasRow R g t (blk d f Z)] [S : Scal ty] (hj : j = i + 2) (hi : i < Z.length)
    [T : Turn R (.row g t (blk d f Z)) (.row g t (blk d f (Z.set i z))) R'] (h : ∀ u', Kn w R' F u' → K a u') : o.wp Tryd.prog a u K Q := by
  have T' : Turn R (.row g t (blk d f Z)) (.row g t ((blk d f Z).set j (.int .i64 z))) R' := by rw [blk_set d f Z hj]; exact T
  exact wp_kn_store (T := T') E ho hd hx hy rfl (by rw [blk_length rfl]; omega) h
theorem kn_bput (E : Kn w R F u) (hgd : o.guard = none) (ho : o.op = .store ty x y) (hd : o.dst = none) {i j : Nat} (hx : a.eval x = .pointer (some ⟨g, j, none⟩)) {z : Int} (hy : a.eval y = .int .i64 z) [H : HasRow R g t (blk d f Z)] [S : Scal ty] (hj : j = i + 2) (hi : i < Z.length)
    [T : Turn R (.row g t (blk d f Z)) (.row g t (blk d f (Z.set i z))) R'] (h : ∀ u', Kn w R' F u' → wpList Tryd.prog ops Q rest a u') : wpList Tryd.prog ops Q (o :: rest) a u :=
  wpList_plain hgd fun _ hK => wp_kn_bput E ho hd hx hy hj hi fun u' E' => hK _ _ (h u' E')
theorem kn_bputd (E : Kn w R F u) (hgd : o.guard = none) (ho : o.op = .store ty x y) (hd : o.dst = none) (hx : a.eval x = .pointer (some ⟨g, 0, none⟩)) {b : Bool} (hy : a.eval y = .bool b) [H : HasRow R g t (blk d f Z)] [S : Scal ty]
    [T : Turn R (.row g t (blk d f Z)) (.row g t (blk b f Z)) R'] (h : ∀ u', Kn w R' F u' → wpList Tryd.prog ops Q rest a u') : wpList Tryd.prog ops Q (o :: rest) a u :=
  kn_store (T := (show Turn R (.row g t (blk d f Z)) (.row g t ((blk d f Z).set 0 (.bool b))) R' from T)) E hgd ho hd hx hy rfl (by rw [blk_length rfl]; omega) h
theorem kn_bputf (E : Kn w R F u) (hgd : o.guard = none) (ho : o.op = .store ty x y) (hd : o.dst = none) (hx : a.eval x = .pointer (some ⟨g, 1, none⟩)) {b : Bool} (hy : a.eval y = .bool b) [H : HasRow R g t (blk d f Z)] [S : Scal ty]
    [T : Turn R (.row g t (blk d f Z)) (.row g t (blk d b Z)) R'] (h : ∀ u', Kn w R' F u' → wpList Tryd.prog ops Q rest a u') : wpList Tryd.prog ops Q (o :: rest) a u :=
  kn_store (T := (show Turn R (.row g t (blk d f Z)) (.row g t ((blk d f Z).set 1 (.bool b))) R' from T)) E hgd ho hd hx hy rfl (by rw [blk_length rfl]; omega) h
theorem kn_bputp (E : Kn w R F u) (hgd : o.guard = none) (ho : o.op = .store ty x y) (hd : o.dst = none) {i j : Nat} (hx : a.eval x = .pointer (some ⟨g, j, none⟩)) {ys : List Int} (hy : a.eval y = arr ys) [H : HasRow R g t (blk d f Z)] {m : Nat} [A : Aggr ty m] (hj : j = i + 2) (hl : ys.length = m) (hm : i + m ≤ Z.length)
    [T : Turn R (.row g t (blk d f Z)) (.row g t (blk d f (spl Z i ys))) R'] (h : ∀ u', Kn w R' F u' → wpList Tryd.prog ops Q rest a u') : wpList Tryd.prog ops Q (o :: rest) a u :=
  kn_storev (T := T) E hgd ho hd hx hy (by rw [i64s_length]; exact hl) (by rw [blk_length rfl]; omega) (i64s_one ys) (blk_spl d f Z ys hj) h
/-- A whole block. -/
theorem kn_bputall (E : Kn w R F u) (hgd : o.guard = none) (ho : o.op = .store ty x y) (hd : o.dst = none) (hx : a.eval x = .pointer (some ⟨g, 0, none⟩)) {d' f' : Bool} {Z' : List Int} (hy : a.eval y = .agg (blk d' f' Z').toArray) [H : HasRow R g t (blk d f Z)] [A : Aggr ty 26] (hZ : Z.length = 24) (hZ' : Z'.length = 24)
    [T : Turn R (.row g t (blk d f Z)) (.row g t (blk d' f' Z')) R'] (h : ∀ u', Kn w R' F u' → wpList Tryd.prog ops Q rest a u') : wpList Tryd.prog ops Q (o :: rest) a u :=
  kn_stores (T := T) E hgd ho hd hx hy ⟨blk_length (by omega), blk_length (by omega)⟩ (blk_one _ _ _) h
end

/-! Blocks made of their fields, and compared. -/
theorem built_b0 (u : World) : (Instr.build 28 #[]).run Tryd.prog u = .ok (.agg (blk false false z24).toArray) u := run_build u _ _ _ (by kernel_rfl)
theorem built_r0 (u : World) : (Instr.build 32 #[]).run Tryd.prog u = .ok (.agg (blk false false z24).toArray) u := run_build u _ _ _ (by kernel_rfl)
theorem built_b2 (d f : Bool) (u : World) : (Instr.build 28 #[(0, .bool d), (1, .bool f)]).run Tryd.prog u = .ok (.agg (blk d f z24).toArray) u := run_build u _ _ _ (by kernel_rfl)
theorem list24 {α : Type} (l : List α) (h : l.length = 24) : ∃ a0 a1 a2 a3 a4 a5 a6 a7 a8 a9 a10 a11 a12 a13 a14 a15 a16 a17 a18 a19 a20 a21 a22 a23, l = [a0, a1, a2, a3, a4, a5, a6, a7, a8, a9, a10, a11, a12, a13, a14, a15, a16, a17, a18, a19, a20, a21, a22, a23] := by
  match l, h with
  | [a0, a1, a2, a3, a4, a5, a6, a7, a8, a9, a10, a11, a12, a13, a14, a15, a16, a17, a18, a19, a20, a21, a22, a23], _ => exact ⟨a0, a1, a2, a3, a4, a5, a6, a7, a8, a9, a10, a11, a12, a13, a14, a15, a16, a17, a18, a19, a20, a21, a22, a23, rfl⟩
set_option maxRecDepth 100000 in
theorem built_to (d f : Bool) (Z : List Int) (hZ : Z.length = 24) (u : World) : (Instr.build 32 #[(0, .bool d), (1, .bool f), (2, arr ((Z.drop 0).take 3)), (3, arr ((Z.drop 3).take 3)), (4, arr ((Z.drop 6).take 2)), (5, arr ((Z.drop 8).take 16))]).run Tryd.prog u = .ok (.agg (blk d f Z).toArray) u := by
  obtain ⟨a0, a1, a2, a3, a4, a5, a6, a7, a8, a9, a10, a11, a12, a13, a14, a15, a16, a17, a18, a19, a20, a21, a22, a23, rfl⟩ := list24 Z hZ
  exact run_build u _ _ _ (by kernel_rfl)
theorem eq_part (d f : Bool) (Z : List Int) (i j m n : Nat) (t : TypeId) [A : Aggr t m] (hj : j = i + 2) (hu : Tryd.prog.underlying t = some (.array m 3)) (hl : i + m ≤ Z.length) (fs : List (Bool × TypeId × Nat)) (w : World) :
    (eqG (n + 2) (blk d f Z).toArray (blk d f Z).toArray ((true, t, j) :: fs)).run Tryd.prog w = (eqG (n + 2) (blk d f Z).toArray (blk d f Z).toArray fs).run Tryd.prog w :=
  eqG_self fs w (part_agg w (blk_part d f Z hj)) (by
    have hl' : ((Z.drop i).take m).length = m := by rw [List.length_take, List.length_drop]; omega
    have h := eqIn_ints w n t 3 m hu Tryd.underlying3 szf ((Z.drop i).take m) ((Z.drop i).take m) hl' hl'
    rw [beq_self_eq_true] at h
    exact h)
theorem eq_bool (d f : Bool) (Z : List Int) (b : Bool) (j n : Nat) (hb : (blk d f Z)[j]? = some (.bool b)) (fs : List (Bool × TypeId × Nat)) (w : World) :
    (eqG (n + 1) (blk d f Z).toArray (blk d f Z).toArray ((true, 4, j) :: fs)).run Tryd.prog w = (eqG (n + 1) (blk d f Z).toArray (blk d f Z).toArray fs).run Tryd.prog w :=
  eqG_self (v := .bool b) fs w (part_scal w (by simpa using hb)) (by
    have h := run_equalIn_bool' (P := Tryd.prog) w n 4 b b Tryd.underlying4
    rw [beq_self_eq_true] at h
    exact h)
theorem eq_block (d f : Bool) (Z : List Int) (hZ : Z.length = 24) (w : World) : (Op.equalIn 10000 28 (.agg (blk d f Z).toArray) (.agg (blk d f Z).toArray)).run Tryd.prog w = .ok true w := by
  have hf : Tryd.prog.underlying 28 = some (.struct (Tryd.prog.fieldsOf 28)) := by kernel_rfl
  have hs : Tryd.prog.stoodInHeld 28 = false := by kernel_rfl
  have hg : (Tryd.prog.fieldsOf 28).toList.map (fun f => (decide (f.name ≠ "_"), f.type, f.offset)) = [(true, 4, 0), (true, 4, 1), (true, 24, 2), (true, 24, 5), (true, 25, 8), (true, 26, 10)] := by kernel_rfl
  rw [run_equalIn_struct w 9999 _ _ _ hf hs, eqFields_eqG, hg, eq_bool d f Z d 0 9998 rfl, eq_bool d f Z f 1 9998 rfl, eq_part d f Z 0 2 3 9997 _ rfl Tryd.underlying24 (by omega), eq_part d f Z 3 5 3 9997 _ rfl Tryd.underlying24 (by omega), eq_part d f Z 6 8 2 9997 _ rfl Tryd.underlying25 (by omega), eq_part d f Z 8 10 16 9997 _ rfl Tryd.underlying26 (by omega)]
  rfl
theorem eq_rblock (d f : Bool) (Z : List Int) (hZ : Z.length = 24) (w : World) : (Op.equalIn 10000 32 (.agg (blk d f Z).toArray) (.agg (blk d f Z).toArray)).run Tryd.prog w = .ok true w := by
  have hf : Tryd.prog.underlying 32 = some (.struct (Tryd.prog.fieldsOf 32)) := by kernel_rfl
  have hs : Tryd.prog.stoodInHeld 32 = false := by kernel_rfl
  have hg : (Tryd.prog.fieldsOf 32).toList.map (fun f => (decide (f.name ≠ "_"), f.type, f.offset)) = [(true, 4, 0), (true, 4, 1), (true, 24, 2), (true, 24, 5), (true, 25, 8), (true, 26, 10)] := by kernel_rfl
  rw [run_equalIn_struct w 9999 _ _ _ hf hs, eqFields_eqG, hg, eq_bool d f Z d 0 9998 rfl, eq_bool d f Z f 1 9998 rfl, eq_part d f Z 0 2 3 9997 _ rfl Tryd.underlying24 (by omega), eq_part d f Z 3 5 3 9997 _ rfl Tryd.underlying24 (by omega), eq_part d f Z 6 8 2 9997 _ rfl Tryd.underlying25 (by omega), eq_part d f Z 8 10 16 9997 _ rfl Tryd.underlying26 (by omega)]
  rfl

/-! A block as an argument. -/
theorem cell_int {W : World} {r : Reach} {base : Nat} {v : Value} (h : Cell.okWide Tryd.prog W r base 3 v) : ∃ z : Int, v = .int .i64 z ∧ -9223372036854775808 ≤ z ∧ z ≤ 9223372036854775807 := by
  unfold Cell.okWide at h
  rw [Tryd.underlying3] at h
  cases v <;> simp_all [Cell.ok, Tryd.underlying3, IntKind.has, IntKind.min, IntKind.max]
  have h2 := h.2
  simp [IntKind.signed, IntKind.bits] at h2
  omega
theorem cell_bool {W : World} {r : Reach} {base : Nat} {v : Value} (h : Cell.okWide Tryd.prog W r base 4 v) : ∃ b : Bool, v = .bool b := by
  unfold Cell.okWide at h
  rw [Tryd.underlying4] at h
  cases v <;> simp_all [Cell.ok, Tryd.underlying4]
set_option maxRecDepth 100000 in
theorem open_block {W : World} {r : Reach} {base : Nat} {v : Value} (hok : Value.okWide Tryd.prog W r base 28 v) :
    ∃ d f Z, v = .agg (blk d f Z).toArray ∧ Z.length = 24 ∧ ∀ z ∈ Z, -9223372036854775808 ≤ z ∧ z ≤ 9223372036854775807 := by
  have hu := Tryd.underlying28
  obtain ⟨cs, rfl, hsz, ts, hts, _, hcell⟩ : ∃ cs, v = .agg cs ∧ cs.size = Tryd.prog.cellsOf 28 ∧ Row.okWide Tryd.prog W r base 28 cs := by
    simpa [Value.okWide, hu] using hok
  have h26 : Tryd.prog.cellsOf 28 = 26 := by kernel_rfl
  have htl : Tryd.prog.cellTypes Tryd.prog.depth 28 = some (4 :: 4 :: List.replicate 24 3) := by kernel_rfl
  rw [htl] at hts
  obtain rfl := Option.some.inj hts
  rw [h26] at hsz
  obtain ⟨l⟩ := cs
  simp only [List.size_toArray] at hsz
  match l, hsz with
  | x :: y :: zs, hsz =>
    have hz : zs.length = 24 := by simpa using hsz
    obtain ⟨u0, e0, k0⟩ := hcell 0 x rfl
    obtain ⟨u1, e1, k1⟩ := hcell 1 y rfl
    obtain rfl : 4 = u0 := by simpa using e0
    obtain rfl : 4 = u1 := by simpa using e1
    obtain ⟨d, rfl⟩ := cell_bool k0
    obtain ⟨f, rfl⟩ := cell_bool k1
    have hc : ∀ i (hi : i < zs.length), ∃ z : Int, zs[i] = .int .i64 z ∧ -9223372036854775808 ≤ z ∧ z ≤ 9223372036854775807 := fun i hi => by
      obtain ⟨u, e, k⟩ := hcell (i + 2) zs[i] (by simp)
      have e' : (4 :: 4 :: List.replicate 24 3)[i + 2]? = some u := by
        have hm : (i + 2) % (4 :: 4 :: List.replicate 24 3).length = i + 2 := by
          simp only [List.length_cons, List.length_replicate]; omega
        rwa [hm] at e
      obtain rfl : 3 = u := by
        rw [List.getElem?_cons_succ, List.getElem?_cons_succ, List.getElem?_replicate, if_pos (by omega)] at e'
        exact Option.some.inj e'
      exact cell_int k
    refine ⟨d, f, zs.map intOf, ?_, by simpa using hz, ?_⟩
    · congr 1
      unfold blk
      congr 2
      simp only [i64s, List.map_map]
      congr 1
      apply List.ext_getElem (by simp)
      intro i h1 h2
      obtain ⟨z, hz, _⟩ := hc i h1
      simp only [List.getElem_map, Function.comp, hz]
      rfl
    · intro z hz
      obtain ⟨u, hu, rfl⟩ := List.mem_map.1 hz
      obtain ⟨i, hi, rfl⟩ := List.getElem_of_mem hu
      obtain ⟨z, hz, hb⟩ := hc i hi
      rw [hz]
      exact hb
end Go.Proofs.YtjlkdmdepdoanaaDoor
