/- E1Kn, E1JoinP, E1ColP: merged. -/
import Derived.Test.YtgcijioiicmjiaaDoorG6
import Derived.Test.YtgcijioiicmjiaaDoorE1Plain
import Derived.Test.YtgcijioiicmjiaaDoorOpenArr
import Derived.Test.YtgcijioiicmjiaaDoorG4
set_option linter.all false
namespace Go.Proofs.YtgcijioiicmjiaaDoor
open Go.RowKit
open Bi Lv Eo

instance : Aggr 48 26 := ⟨⟨_, Tryd.underlying48, rfl⟩, by kernel_rfl⟩
instance : Aggr 65 26 := ⟨⟨_, Tryd.underlying65, rfl⟩, by kernel_rfl⟩
instance : Aggr 34 3 := ⟨⟨_, Tryd.underlying34, rfl⟩, by kernel_rfl⟩
instance : Aggr 51 8 := ⟨⟨_, Tryd.underlying51, rfl⟩, by kernel_rfl⟩
instance : Aggr 110 8 := ⟨⟨_, Tryd.underlying110, rfl⟩, by kernel_rfl⟩
namespace Eo
def blk (d f : Bool) (Z : List Int) : List Value := .bool d :: .bool f :: i64s Z
theorem blk_length {d f : Bool} {Z : List Int} {n : Nat} (h : Z.length + 2 = n) : (blk d f Z).length = n := by unfold blk; simp [i64s_length]; exact h
theorem blk_one (d f : Bool) (Z : List Int) : ∀ v ∈ blk d f Z, v.oneCell' = true := by
  intro v hv
  unfold blk at hv
  rcases List.mem_cons.1 hv with rfl | hv
  · rfl
  · rcases List.mem_cons.1 hv with rfl | hv
    · rfl
    · exact i64s_one Z v hv
theorem blk_z (d f : Bool) (Z : List Int) {i j : Nat} (hj : j = i + 2) (h : i < Z.length) : (blk d f Z)[j]? = some (.int .i64 (Z.getD i 0)) := by
  subst hj
  exact i64s_get Z i h
theorem blk_set (d f : Bool) (Z : List Int) {i j : Nat} (hj : j = i + 2) (z : Int) : (blk d f Z).set j (.int .i64 z) = blk d f (Z.set i z) := by
  subst hj
  unfold blk
  rw [List.set_cons_succ, List.set_cons_succ, i64s_set]
theorem blk_part (d f : Bool) (Z : List Int) {i j m : Nat} (hj : j = i + 2) : ((blk d f Z).drop j).take m = i64s ((Z.drop i).take m) := by
  subst hj
  unfold blk
  rw [List.drop_succ_cons, List.drop_succ_cons, i64s_take, i64s_drop]
theorem spl_cons {α : Type} (ys : List α) : ∀ (x : α) (zs : List α) (o : Nat), spl (x :: zs) (o + 1) ys = x :: spl zs o ys := by
  induction ys with
  | nil => intros; rfl
  | cons y ys ih =>
    intro x zs o
    show spl ((x :: zs).set (o + 1) y) (o + 1 + 1) ys = x :: spl (zs.set o y) (o + 1) ys
    rw [List.set_cons_succ, ih]
theorem blk_spl (d f : Bool) (Z ys : List Int) {i j : Nat} (hj : j = i + 2) : spl (blk d f Z) j (i64s ys) = blk d f (spl Z i ys) := by
  subst hj
  unfold blk
  rw [spl_cons, spl_cons, i64s_spl]
end Eo
instance : ZeroV 48 (blk false false z24) := .of (by kernel_rfl)
instance : ZeroV 65 (blk false false z24) := .of (by kernel_rfl)
instance : ZeroV 51 (i64s [0, 0, 0, 0, 0, 0, 0, 0]) := .of (by kernel_rfl)
instance : ZeroV 110 (i64s [0, 0, 0, 0, 0, 0, 0, 0]) := .of (by kernel_rfl)
instance {d f : Bool} {Z : List Int} {R : List Res} {g : Nat} {t : TypeId} [H : NoU8 R] : NoU8 (.row g t (blk d f Z) :: R) := ⟨fun {B u} hr b hb i x hc => by
  rw [mem_blocks] at hb
  obtain ⟨r, hm, e⟩ := hb
  rcases List.mem_cons.1 hm with rfl | hm
  · have hrow : Row u g t (blk d f Z) := (hr _ List.mem_cons_self).2
    cases e
    rw [cell_of_row u g i _ _ (0, 0) hrow] at hc
    have hmem : Value.int .u8 x ∈ blk d f Z := by
      have := List.mem_of_getElem? (by simpa using hc)
      exact this
    simp [blk, i64s] at hmem
  · exact H.h (fun s hs => hr s (List.mem_cons_of_mem _ hs)) b (mem_blocks.2 ⟨r, hm, e⟩) i x hc⟩

section
variable {w u : World} {R R' : List Res} {F : List (World → Prop)} {ops : Array Oper} {rest : List Oper} {o : Oper} {a : Act} {Q : Exit → Act → World → Prop} {K : Act → World → Prop} {d f : Bool} {Z : List Int} {g : Nat} {t ty : TypeId} {x y : Operand}
theorem kn_bd (E : Kn w R F u) (hgd : o.guard = none) (ho : o.op = .load ty x) (hx : a.eval x = .pointer (some ⟨g, 0, none⟩)) [Sees R F g t (blk d f Z)] [Scal ty]
    (h : wpList Tryd.prog ops Q rest (a.put o.dst (.bool d)) u) : wpList Tryd.prog ops Q (o :: rest) a u := kn_load (vs := blk d f Z) E hgd ho hx rfl h
theorem kn_bf (E : Kn w R F u) (hgd : o.guard = none) (ho : o.op = .load ty x) (hx : a.eval x = .pointer (some ⟨g, 1, none⟩)) [Sees R F g t (blk d f Z)] [Scal ty]
    (h : wpList Tryd.prog ops Q rest (a.put o.dst (.bool f)) u) : wpList Tryd.prog ops Q (o :: rest) a u := kn_load (vs := blk d f Z) E hgd ho hx rfl h
theorem kn_bd_if (E : Kn w R F u) (hw : Region.wanted o (yielded ops a.tmps) = true) (ho : o.op = .load ty x) (hx : a.eval x = .pointer (some ⟨g, 0, none⟩)) [Sees R F g t (blk d f Z)] [Scal ty]
    (h : wpList Tryd.prog ops Q rest (a.put o.dst (.bool d)) u) : wpList Tryd.prog ops Q (o :: rest) a u := kn_load_if (vs := blk d f Z) E hw ho hx rfl h
theorem kn_bz (E : Kn w R F u) (hgd : o.guard = none) (ho : o.op = .load ty x) {i j : Nat} (hx : a.eval x = .pointer (some ⟨g, j, none⟩)) [Sees R F g t (blk d f Z)] [Scal ty] (hj : j = i + 2) (hi : i < Z.length)
    (h : wpList Tryd.prog ops Q rest (a.put o.dst (.int .i64 (Z.getD i 0))) u) : wpList Tryd.prog ops Q (o :: rest) a u := kn_load E hgd ho hx (blk_z d f Z hj hi) h
theorem kn_bz_if (E : Kn w R F u) (hw : Region.wanted o (yielded ops a.tmps) = true) (ho : o.op = .load ty x) {i j : Nat} (hx : a.eval x = .pointer (some ⟨g, j, none⟩)) [Sees R F g t (blk d f Z)] [Scal ty] (hj : j = i + 2) (hi : i < Z.length)
    (h : wpList Tryd.prog ops Q rest (a.put o.dst (.int .i64 (Z.getD i 0))) u) : wpList Tryd.prog ops Q (o :: rest) a u := kn_load_if E hw ho hx (blk_z d f Z hj hi) h
theorem kn_ball (E : Kn w R F u) (hgd : o.guard = none) (ho : o.op = .load ty x) (hx : a.eval x = .pointer (some ⟨g, 0, none⟩)) [Sees R F g t (blk d f Z)] [Aggr ty 26] (hZ : Z.length = 24)
    (h : wpList Tryd.prog ops Q rest (a.put o.dst (.agg (blk d f Z).toArray)) u) : wpList Tryd.prog ops Q (o :: rest) a u := kn_loads E hgd ho hx (blk_length (by omega)) h
theorem kn_ball_if (E : Kn w R F u) (hw : Region.wanted o (yielded ops a.tmps) = true) (ho : o.op = .load ty x) (hx : a.eval x = .pointer (some ⟨g, 0, none⟩)) [Sees R F g t (blk d f Z)] [Aggr ty 26] (hZ : Z.length = 24)
    (h : wpList Tryd.prog ops Q rest (a.put o.dst (.agg (blk d f Z).toArray)) u) : wpList Tryd.prog ops Q (o :: rest) a u := kn_loads_if E hw ho hx (blk_length (by omega)) h
theorem kn_bp (E : Kn w R F u) (hgd : o.guard = none) (ho : o.op = .load ty x) {i j m : Nat} (hx : a.eval x = .pointer (some ⟨g, j, none⟩)) [Sees R F g t (blk d f Z)] [Aggr ty m] (hj : j = i + 2) (hl : i + m ≤ Z.length)
    (h : wpList Tryd.prog ops Q rest (a.put o.dst (arr ((Z.drop i).take m))) u) : wpList Tryd.prog ops Q (o :: rest) a u :=
  kn_loadv E hgd ho hx (blk_part d f Z hj) (by rw [i64s_length, List.length_take, List.length_drop]; omega) h
theorem wp_kn_bput (E : Kn w R F u) (ho : o.op = .store ty x y) (hd : o.dst = none) {i j : Nat} (hx : a.eval x = .pointer (some ⟨g, j, none⟩)) {z : Int} (hy : a.eval y = .int .i64 z) [H : HasRow R g t (blk d f Z)] [S : Scal ty] (hj : j = i + 2) (hi : i < Z.length)
    [T : Turn R (.row g t (blk d f Z)) (.row g t (blk d f (Z.set i z))) R'] (h : ∀ u', Kn w R' F u' → K a u') : o.wp Tryd.prog a u K Q := by
  have T' : Turn R (.row g t (blk d f Z)) (.row g t ((blk d f Z).set j (.int .i64 z))) R' := by rw [blk_set d f Z hj]; exact T
  exact wp_kn_store (T := T') E ho hd hx hy rfl (by rw [blk_length rfl]; omega) h
theorem kn_bput (E : Kn w R F u) (hgd : o.guard = none) (ho : o.op = .store ty x y) (hd : o.dst = none) {i j : Nat} (hx : a.eval x = .pointer (some ⟨g, j, none⟩)) {z : Int} (hy : a.eval y = .int .i64 z) [H : HasRow R g t (blk d f Z)] [S : Scal ty] (hj : j = i + 2) (hi : i < Z.length)
    [T : Turn R (.row g t (blk d f Z)) (.row g t (blk d f (Z.set i z))) R'] (h : ∀ u', Kn w R' F u' → wpList Tryd.prog ops Q rest a u') : wpList Tryd.prog ops Q (o :: rest) a u :=
  wpList_plain hgd fun _ hK => wp_kn_bput E ho hd hx hy hj hi fun u' E' => hK _ _ (h u' E')
theorem kn_bputd (E : Kn w R F u) (hgd : o.guard = none) (ho : o.op = .store ty x y) (hd : o.dst = none) (hx : a.eval x = .pointer (some ⟨g, 0, none⟩)) {b : Bool} (hy : a.eval y = .bool b) [H : HasRow R g t (blk d f Z)] [S : Scal ty]
    [T : Turn R (.row g t (blk d f Z)) (.row g t (blk b f Z)) R'] (h : ∀ u', Kn w R' F u' → wpList Tryd.prog ops Q rest a u') : wpList Tryd.prog ops Q (o :: rest) a u :=
  kn_store (T := (show Turn R (.row g t (blk d f Z)) (.row g t ((blk d f Z).set 0 (.bool b))) R' from T)) E hgd ho hd hx hy rfl (by rw [blk_length rfl]; omega) h
theorem kn_bputf (E : Kn w R F u) (hgd : o.guard = none) (ho : o.op = .store ty x y) (hd : o.dst = none) (hx : a.eval x = .pointer (some ⟨g, 1, none⟩)) {b : Bool} (hy : a.eval y = .bool b) [H : HasRow R g t (blk d f Z)] [S : Scal ty]
    [T : Turn R (.row g t (blk d f Z)) (.row g t (blk d b Z)) R'] (h : ∀ u', Kn w R' F u' → wpList Tryd.prog ops Q rest a u') : wpList Tryd.prog ops Q (o :: rest) a u :=
  kn_store (T := (show Turn R (.row g t (blk d f Z)) (.row g t ((blk d f Z).set 1 (.bool b))) R' from T)) E hgd ho hd hx hy rfl (by rw [blk_length rfl]; omega) h
theorem kn_bputp (E : Kn w R F u) (hgd : o.guard = none) (ho : o.op = .store ty x y) (hd : o.dst = none) {i j : Nat} (hx : a.eval x = .pointer (some ⟨g, j, none⟩)) {ys : List Int} (hy : a.eval y = arr ys) [H : HasRow R g t (blk d f Z)] {m : Nat} [A : Aggr ty m] (hj : j = i + 2) (hl : ys.length = m) (hm : i + m ≤ Z.length)
    [T : Turn R (.row g t (blk d f Z)) (.row g t (blk d f (spl Z i ys))) R'] (h : ∀ u', Kn w R' F u' → wpList Tryd.prog ops Q rest a u') : wpList Tryd.prog ops Q (o :: rest) a u :=
  kn_storev (T := T) E hgd ho hd hx hy (by rw [i64s_length]; exact hl) (by rw [blk_length rfl]; omega) (i64s_one ys) (blk_spl d f Z ys hj) h
/-- A whole block. -/
theorem kn_bputall (E : Kn w R F u) (hgd : o.guard = none) (ho : o.op = .store ty x y) (hd : o.dst = none) (hx : a.eval x = .pointer (some ⟨g, 0, none⟩)) {d' f' : Bool} {Z' : List Int} (hy : a.eval y = .agg (blk d' f' Z').toArray) [H : HasRow R g t (blk d f Z)] [A : Aggr ty 26] (hZ : Z.length = 24) (hZ' : Z'.length = 24)
    [T : Turn R (.row g t (blk d f Z)) (.row g t (blk d' f' Z')) R'] (h : ∀ u', Kn w R' F u' → wpList Tryd.prog ops Q rest a u') : wpList Tryd.prog ops Q (o :: rest) a u :=
  kn_stores (T := T) E hgd ho hd hx hy ⟨blk_length (by omega), blk_length (by omega)⟩ (blk_one _ _ _) h
end

/-! Blocks made of their fields, and compared. -/
theorem built_b0 (u : World) : (Instr.build 48 #[]).run Tryd.prog u = .ok (.agg (blk false false z24).toArray) u := run_build u _ _ _ (by kernel_rfl)
theorem built_r0 (u : World) : (Instr.build 65 #[]).run Tryd.prog u = .ok (.agg (blk false false z24).toArray) u := run_build u _ _ _ (by kernel_rfl)
theorem built_b2 (d f : Bool) (u : World) : (Instr.build 48 #[(0, .bool d), (1, .bool f)]).run Tryd.prog u = .ok (.agg (blk d f z24).toArray) u := run_build u _ _ _ (by kernel_rfl)
theorem list24 {α : Type} (l : List α) (h : l.length = 24) : ∃ a0 a1 a2 a3 a4 a5 a6 a7 a8 a9 a10 a11 a12 a13 a14 a15 a16 a17 a18 a19 a20 a21 a22 a23, l = [a0, a1, a2, a3, a4, a5, a6, a7, a8, a9, a10, a11, a12, a13, a14, a15, a16, a17, a18, a19, a20, a21, a22, a23] := by
  match l, h with
  | [a0, a1, a2, a3, a4, a5, a6, a7, a8, a9, a10, a11, a12, a13, a14, a15, a16, a17, a18, a19, a20, a21, a22, a23], _ => exact ⟨a0, a1, a2, a3, a4, a5, a6, a7, a8, a9, a10, a11, a12, a13, a14, a15, a16, a17, a18, a19, a20, a21, a22, a23, rfl⟩
set_option maxRecDepth 100000 in
theorem built_to (d f : Bool) (Z : List Int) (hZ : Z.length = 24) (u : World) : (Instr.build 65 #[(0, .bool d), (1, .bool f), (2, arr ((Z.drop 0).take 3)), (3, arr ((Z.drop 3).take 3)), (4, arr ((Z.drop 6).take 2)), (5, arr ((Z.drop 8).take 16))]).run Tryd.prog u = .ok (.agg (blk d f Z).toArray) u := by
  obtain ⟨a0, a1, a2, a3, a4, a5, a6, a7, a8, a9, a10, a11, a12, a13, a14, a15, a16, a17, a18, a19, a20, a21, a22, a23, rfl⟩ := list24 Z hZ
  exact run_build u _ _ _ (by kernel_rfl)
theorem eq_part (d f : Bool) (Z : List Int) (i j m n : Nat) (t : TypeId) [A : Aggr t m] (hj : j = i + 2) (hu : Tryd.prog.underlying t = some (.array m 3)) (hl : i + m ≤ Z.length) (fs : List (Bool × TypeId × Nat)) (w : World) :
    (eqG (n + 2) (blk d f Z).toArray (blk d f Z).toArray ((true, t, j) :: fs)).run Tryd.prog w = (eqG (n + 2) (blk d f Z).toArray (blk d f Z).toArray fs).run Tryd.prog w :=
  eqG_self fs w (part_agg w (blk_part d f Z hj)) (by
    have hl' : ((Z.drop i).take m).length = m := by rw [List.length_take, List.length_drop]; omega
    have h := eqIn_ints w n t 3 m hu Tryd.underlying3 szf ((Z.drop i).take m) ((Z.drop i).take m) hl' hl'
    rw [beq_self_eq_true] at h
    exact h)
theorem eq_bool (d f : Bool) (Z : List Int) (b : Bool) (j n : Nat) (hb : (blk d f Z)[j]? = some (.bool b)) (fs : List (Bool × TypeId × Nat)) (w : World) :
    (eqG (n + 1) (blk d f Z).toArray (blk d f Z).toArray ((true, 4, j) :: fs)).run Tryd.prog w = (eqG (n + 1) (blk d f Z).toArray (blk d f Z).toArray fs).run Tryd.prog w :=
  eqG_self (v := .bool b) fs w (part_scal w (by simpa using hb)) (by
    have h := run_equalIn_bool' (P := Tryd.prog) w n 4 b b Tryd.underlying4
    rw [beq_self_eq_true] at h
    exact h)
theorem eq_block (d f : Bool) (Z : List Int) (hZ : Z.length = 24) (w : World) : (Op.equalIn 10000 48 (.agg (blk d f Z).toArray) (.agg (blk d f Z).toArray)).run Tryd.prog w = .ok true w := by
  have hf : Tryd.prog.underlying 48 = some (.struct (Tryd.prog.fieldsOf 48)) := by kernel_rfl
  have hs : Tryd.prog.stoodInHeld 48 = false := by kernel_rfl
  have hg : (Tryd.prog.fieldsOf 48).toList.map (fun f => (decide (f.name ≠ "_"), f.type, f.offset)) = [(true, 4, 0), (true, 4, 1), (true, 34, 2), (true, 34, 5), (true, 45, 8), (true, 46, 10)] := by kernel_rfl
  rw [run_equalIn_struct w 9999 _ _ _ hf hs, eqFields_eqG, hg, eq_bool d f Z d 0 9998 rfl, eq_bool d f Z f 1 9998 rfl, eq_part d f Z 0 2 3 9997 _ rfl Tryd.underlying34 (by omega), eq_part d f Z 3 5 3 9997 _ rfl Tryd.underlying34 (by omega), eq_part d f Z 6 8 2 9997 _ rfl Tryd.underlying45 (by omega), eq_part d f Z 8 10 16 9997 _ rfl Tryd.underlying46 (by omega)]
  rfl
theorem eq_rblock (d f : Bool) (Z : List Int) (hZ : Z.length = 24) (w : World) : (Op.equalIn 10000 65 (.agg (blk d f Z).toArray) (.agg (blk d f Z).toArray)).run Tryd.prog w = .ok true w := by
  have hf : Tryd.prog.underlying 65 = some (.struct (Tryd.prog.fieldsOf 65)) := by kernel_rfl
  have hs : Tryd.prog.stoodInHeld 65 = false := by kernel_rfl
  have hg : (Tryd.prog.fieldsOf 65).toList.map (fun f => (decide (f.name ≠ "_"), f.type, f.offset)) = [(true, 4, 0), (true, 4, 1), (true, 34, 2), (true, 34, 5), (true, 45, 8), (true, 46, 10)] := by kernel_rfl
  rw [run_equalIn_struct w 9999 _ _ _ hf hs, eqFields_eqG, hg, eq_bool d f Z d 0 9998 rfl, eq_bool d f Z f 1 9998 rfl, eq_part d f Z 0 2 3 9997 _ rfl Tryd.underlying34 (by omega), eq_part d f Z 3 5 3 9997 _ rfl Tryd.underlying34 (by omega), eq_part d f Z 6 8 2 9997 _ rfl Tryd.underlying45 (by omega), eq_part d f Z 8 10 16 9997 _ rfl Tryd.underlying46 (by omega)]
  rfl

/-! A block as an argument. -/
set_option maxRecDepth 100000 in
theorem cell_int {W : World} {r : Reach} {base : Nat} {v : Value} (h : Cell.okWide Tryd.prog W r base 3 v) : ∃ z : Int, v = .int .i64 z ∧ -9223372036854775808 ≤ z ∧ z ≤ 9223372036854775807 := by
  unfold Cell.okWide at h
  rw [Tryd.underlying3] at h
  cases v <;> simp_all [Cell.ok, Tryd.underlying3, IntKind.has, IntKind.min, IntKind.max]
  have h2 := h.2
  simp [IntKind.signed, IntKind.bits] at h2
  omega
set_option maxRecDepth 100000 in
theorem cell_bool {W : World} {r : Reach} {base : Nat} {v : Value} (h : Cell.okWide Tryd.prog W r base 4 v) : ∃ b : Bool, v = .bool b := by
  unfold Cell.okWide at h
  rw [Tryd.underlying4] at h
  cases v <;> simp_all [Cell.ok, Tryd.underlying4]
set_option maxRecDepth 100000 in
theorem open_block {W : World} {r : Reach} {base : Nat} {v : Value} (hok : Value.okWide Tryd.prog W r base 48 v) :
    ∃ d f Z, v = .agg (blk d f Z).toArray ∧ Z.length = 24 ∧ ∀ z ∈ Z, -9223372036854775808 ≤ z ∧ z ≤ 9223372036854775807 := by
  have hu := Tryd.underlying48
  obtain ⟨cs, rfl, hsz, ts, hts, _, hcell⟩ : ∃ cs, v = .agg cs ∧ cs.size = Tryd.prog.cellsOf 48 ∧ Row.okWide Tryd.prog W r base 48 cs := by
    simpa [Value.okWide, hu] using hok
  have h26 : Tryd.prog.cellsOf 48 = 26 := by kernel_rfl
  have htl : Tryd.prog.cellTypes Tryd.prog.depth 48 = some (4 :: 4 :: List.replicate 24 3) := by kernel_rfl
  rw [htl] at hts
  obtain rfl := Option.some.inj hts
  rw [h26] at hsz
  obtain ⟨l⟩ := cs
  simp only [List.size_toArray] at hsz
  match l, hsz with
  | x :: y :: zs, hsz =>
    have hz : zs.length = 24 := by simpa using hsz
    obtain ⟨u0, e0, k0⟩ := hcell 0 x rfl
    obtain ⟨u1, e1, k1⟩ := hcell 1 y rfl
    obtain rfl : 4 = u0 := by simpa using e0
    obtain rfl : 4 = u1 := by simpa using e1
    obtain ⟨d, rfl⟩ := cell_bool k0
    obtain ⟨f, rfl⟩ := cell_bool k1
    have hc : ∀ i (hi : i < zs.length), ∃ z : Int, zs[i] = .int .i64 z ∧ -9223372036854775808 ≤ z ∧ z ≤ 9223372036854775807 := fun i hi => by
      obtain ⟨u, e, k⟩ := hcell (i + 2) zs[i] (by simp)
      have e' : (4 :: 4 :: List.replicate 24 3)[i + 2]? = some u := by
        have hm : (i + 2) % (4 :: 4 :: List.replicate 24 3).length = i + 2 := by
          simp only [List.length_cons, List.length_replicate]; omega
        rwa [hm] at e
      obtain rfl : 3 = u := by
        rw [List.getElem?_cons_succ, List.getElem?_cons_succ, List.getElem?_replicate, if_pos (by omega)] at e'
        exact Option.some.inj e'
      exact cell_int k
    refine ⟨d, f, zs.map intOf, ?_, by simpa using hz, ?_⟩
    · congr 1
      unfold blk
      congr 2
      simp only [i64s, List.map_map]
      congr 1
      apply List.ext_getElem (by simp)
      intro i h1 h2
      obtain ⟨z, hz, _⟩ := hc i h1
      simp only [List.getElem_map, Function.comp, hz]
      rfl
    · intro z hz
      obtain ⟨u, hu, rfl⟩ := List.mem_map.1 hz
      obtain ⟨i, hi, rfl⟩ := List.getElem_of_mem hu
      obtain ⟨z, hz, hb⟩ := hc i hi
      rw [hz]
      exact hb
end Go.Proofs.YtgcijioiicmjiaaDoor
set_option linter.all false
namespace Go.Proofs.YtgcijioiicmjiaaDoor
open Bi Lv
namespace Eo
open Bc (z8 z8_lt)

/-- A block's bits. -/
def jG (d f : Bool) (Z : List Int) (i : Nat) : Bool :=
  if i < 24 then (if i % 8 < w1 d then (Z.getD (i / 8) 0).toNat.testBit (w1 d - 1 - i % 8) else (Z.getD (3 + i / 8) 0 % ((2 ^ w2 d : Nat) : Int)).toNat.testBit (7 - i % 8))
  else if i < 30 then (Z.getD (6 + (i - 24) / 3) 0).toNat.testBit (2 - (i - 24) % 3)
  else if i = 30 then d else if i = 31 then f
  else if i < 48 then (Z.getD (8 + pos (47 - i)) 0).toNat.testBit 1
  else (Z.getD (8 + pos (63 - i)) 0).toNat.testBit 0
theorem jG_a (d f : Bool) (Z : List Int) (c k : Nat) (hc : c < 3) (hk : k < w1 d) : (Z.getD c 0).toNat.testBit (w1 d - 1 - k) = jG d f Z (8 * c + k) := by
  have := w1_bd d
  unfold jG
  rw [if_pos (by omega), show (8 * c + k) % 8 = k by omega, if_pos hk, show (8 * c + k) / 8 = c by omega]
theorem jG_b (d f : Bool) (Z : List Int) (c k : Nat) (hc : c < 3) (hk : k < w2 d) : (Z.getD (3 + c) 0 % ((2 ^ w2 d : Nat) : Int)).toNat.testBit (w2 d - 1 - k) = jG d f Z (8 * c + w1 d + k) := by
  have := w1_bd d
  have := w_sum d
  unfold jG
  rw [if_pos (by omega), show (8 * c + w1 d + k) % 8 = w1 d + k by omega, if_neg (by omega), show (8 * c + w1 d + k) / 8 = c by omega, show 7 - (w1 d + k) = w2 d - 1 - k by omega]
theorem jG_t (d f : Bool) (Z : List Int) (t k : Nat) (ht : t < 2) (hk : k < 3) : (Z.getD (6 + t) 0).toNat.testBit (3 - 1 - k) = jG d f Z (24 + 3 * t + k) := by
  unfold jG
  rw [if_neg (by omega), if_pos (by omega), show (24 + 3 * t + k - 24) / 3 = t by omega, show (24 + 3 * t + k - 24) % 3 = k by omega]
theorem jG_d (d f : Bool) (Z : List Int) : jG d f Z 30 = d := rfl
theorem jG_f (d f : Bool) (Z : List Int) : jG d f Z 31 = f := rfl
theorem jG_hi (d f : Bool) (Z : List Int) (k : Nat) (hk : k < 16) : jG d f Z (47 - k) = (Z.getD (8 + pos k) 0).toNat.testBit 1 := by
  unfold jG
  rw [if_neg (by omega), if_neg (by omega), if_neg (by omega), if_neg (by omega), if_pos (by omega), show 47 - (47 - k) = k by omega]
theorem jG_lo (d f : Bool) (Z : List Int) (k : Nat) (hk : k < 16) : jG d f Z (63 - k) = (Z.getD (8 + pos k) 0).toNat.testBit 0 := by
  unfold jG
  rw [if_neg (by omega), if_neg (by omega), if_neg (by omega), if_neg (by omega), if_neg (by omega), show 63 - (63 - k) = k by omega]

/-- The bytes with the bits of S laid. -/
def lz (g S : Nat → Bool) : List Nat := lay z8 true 0 64 fun i => S i && g i
theorem lz_length (g S : Nat → Bool) : (lz g S).length = 8 := by unfold lz; rw [lay_length]; rfl
theorem lz_lt (g S : Nat → Bool) : ∀ x ∈ lz g S, x < 256 := lay_lt _ _ _ _ _
theorem lz_bit (g S : Nat → Bool) (i : Nat) (h : i < 64) : bt (lz g S) true i = (S i && g i) := by
  unfold lz
  rw [lay_bit _ _ _ _ _ _ (by show i < 8 * 8; omega), if_pos (by omega), Nat.sub_zero]
theorem lz_zero (g : Nat → Bool) : lz g (sN 0) = z8 := by
  refine ext_bits true (by rw [lz_length]; rfl) (lz_lt _ _) z8_lt fun i hi => ?_
  rw [lz_length] at hi
  have hz : bt z8 true i = false := by
    have h0 : ∀ j, j < 64 → bt z8 true j = false := by decide +kernel
    exact h0 i (by omega)
  rw [lz_bit _ _ _ (by omega), hz]
  simp [sN]
theorem lz_full (g : Nat → Bool) (S : Nat → Bool) (h : ∀ i, i < 64 → S i = true) : lz g S = lay z8 true 0 64 g :=
  lay_congr z8_lt fun k hk => by rw [h k hk]; rfl
theorem lz_st (g : Nat → Bool) {S S' : Nat → Bool} {p m N : Nat} (hp : p + m ≤ 64) (hN : ∀ k, k < m → N.testBit (m - 1 - k) = g (p + k)) (h : ∀ i, i < 64 → S' i = (S i || decide (p ≤ i ∧ i < p + m))) : st (lz g S) true p m N = lz g S' := by
  refine ext_bits true (by unfold st; rw [lay_length, lz_length, lz_length]) (st_lt _ _ _ _ _) (lz_lt _ _) fun i hi => ?_
  have hi' : i < 8 * (lz g S).length := by unfold st at hi; rwa [lay_length] at hi
  have h64 : i < 64 := by rw [lz_length] at hi'; omega
  unfold st
  rw [lay_bit _ _ _ _ _ _ hi', lz_bit _ _ _ h64, lz_bit _ _ _ h64, h i h64]
  by_cases h1 : p ≤ i ∧ i < p + m
  · rw [if_pos h1]
    simp only [if_true, hN (i - p) (by omega), show p + (i - p) = i by omega, h1, and_self, decide_true, Bool.or_true, Bool.true_and]
  · rw [if_neg h1]
    simp [h1]
/-- In order, from the first bit on. -/
def lP (g : Nat → Bool) (p : Nat) : List Nat := lz g (sN p)
theorem lP_length (g : Nat → Bool) (p : Nat) : (lP g p).length = 8 := lz_length _ _
theorem lP_zero (g : Nat → Bool) : lP g 0 = z8 := lz_zero g
theorem lP_st (g : Nat → Bool) {p m N q : Nat} (hq : p + m = q) (hp : q ≤ 64) (hN : ∀ k, k < m → N.testBit (m - 1 - k) = g (p + k)) : st (lP g p) true p m N = lP g q := by
  subst hq
  exact lz_st g hp hN fun i hi => by
    simp only [sN]; rw [Bool.eq_iff_iff]; simp only [Bool.or_eq_true, decide_eq_true_eq]; omega
/-- The texels' bits, one texel after another. -/
def sL (m i : Nat) : Bool := decide (i < 32 ∨ (i < 48 ∧ pos (47 - i) < m) ∨ (48 ≤ i ∧ pos (63 - i) < m))
def sM (m i : Nat) : Bool := sL m i || decide (i = 47 - pos m)
def lL (g : Nat → Bool) (m : Nat) : List Nat := lz g (sL m)
def lM (g : Nat → Bool) (m : Nat) : List Nat := lz g (sM m)
theorem lL_length (g : Nat → Bool) (m : Nat) : (lL g m).length = 8 := lz_length _ _
theorem lM_length (g : Nat → Bool) (m : Nat) : (lM g m).length = 8 := lz_length _ _
theorem lL_zero (g : Nat → Bool) : lP g 32 = lL g 0 := by
  unfold lP lL lz
  exact lay_congr z8_lt fun k hk => by simp [sN, sL]
theorem bit0 {n m : Nat} (h : n < 2) (b : Bool) (hb : n = b.toNat) : ∀ k, k < 1 → n.testBit (1 - 1 - k) = b := by
  intro k hk
  subst hb
  obtain rfl : k = 0 := by omega
  cases b <;> rfl
theorem lM_st (g : Nat → Bool) (m N : Nat) (hm : m < 16) (hN : N = (g (47 - pos m)).toNat) : st (lL g m) true (47 - pos m) 1 N = lM g m := by
  have hp := pos_lt hm
  have hb := b_lt (g (47 - pos m))
  refine lz_st g (by omega) (fun k hk => ?_) fun i hi => ?_
  · have := bit0 (m := 0) (n := N) (by omega) (g (47 - pos m)) hN k hk
    rw [this, show 47 - pos m + k = 47 - pos m by omega]
  · simp only [sM]
    congr 1
    rw [decide_eq_decide]
    omega
theorem lL_st (g : Nat → Bool) (m N : Nat) (hm : m < 16) (hN : N = (g (63 - pos m)).toNat) : st (lM g m) true (63 - pos m) 1 N = lL g (m + 1) := by
  have hp := pos_lt hm
  have hb := b_lt (g (63 - pos m))
  refine lz_st g (by omega) (fun k hk => ?_) fun i hi => ?_
  · have := bit0 (m := 0) (n := N) (by omega) (g (63 - pos m)) hN k hk
    rw [this, show 63 - pos m + k = 63 - pos m by omega]
  · simp only [sM, sL]
    rw [Bool.eq_iff_iff]
    simp only [Bool.or_eq_true, decide_eq_true_eq]
    unfold pos at hp ⊢
    omega
theorem lL_full (g : Nat → Bool) : lL g 16 = lay z8 true 0 64 g := lz_full g _ fun i hi => by
  simp only [sL, decide_eq_true_eq]
  unfold pos
  omega
theorem lP_full (g : Nat → Bool) : lP g 64 = lay z8 true 0 64 g := lz_full g _ fun i hi => by simpa [sN] using hi

/-- One plane of the texels' bits, of the first m texels. -/
def plN (Z : List Int) (b m : Nat) : Nat := nm (fun k => decide (pos k < m) && (Z.getD (8 + pos k) 0).toNat.testBit b) 16
theorem plN_zero (Z : List Int) (b : Nat) : plN Z b 0 = 0 := by
  apply Nat.eq_of_testBit_eq
  intro k
  unfold plN
  rw [nm_bit]
  simp
theorem plN_lt (Z : List Int) (b m : Nat) : plN Z b m < 65536 := nm_lt _ 16
theorem plN_step (Z : List Int) (b m : Nat) (hm : m < 16) : plN Z b m ||| ((Z.getD (8 + m) 0).toNat.testBit b).toNat * 2 ^ pos m = plN Z b (m + 1) := by
  apply Nat.eq_of_testBit_eq
  intro q
  unfold plN
  rw [Nat.testBit_or, nm_bit, nm_bit, b_bit]
  have hp := pos_lt hm
  by_cases hq : q < 16
  · by_cases h2 : q = pos m
    · subst h2
      simp [hp, pos_pos hm]
    · have h3 : pos q ≠ m := fun e => h2 (by rw [← e, pos_pos hq])
      simp [hq, h2, show pos q < m + 1 ↔ pos q < m from ⟨fun _ => by omega, fun _ => by omega⟩]
  · simp [hq]
    intro e
    omega
theorem plN_hi (d f : Bool) (Z : List Int) (k : Nat) (hk : k < 16) : (plN Z 1 16).testBit (16 - 1 - k) = jG d f Z (32 + k) := by
  have h := jG_hi d f Z (15 - k) (by omega)
  rw [show 47 - (15 - k) = 32 + k by omega] at h
  unfold plN
  rw [h, nm_bit]
  have hp := pos_lt (show 16 - 1 - k < 16 by omega)
  simp [show 16 - 1 - k = 15 - k from rfl, show 15 - k < 16 from by omega, show pos (15 - k) < 16 from by simpa using hp]
theorem plN_lo (d f : Bool) (Z : List Int) (k : Nat) (hk : k < 16) : (plN Z 0 16).testBit (16 - 1 - k) = jG d f Z (48 + k) := by
  have h := jG_lo d f Z (15 - k) (by omega)
  rw [show 63 - (15 - k) = 48 + k by omega] at h
  unfold plN
  rw [h, nm_bit]
  have hp := pos_lt (show 16 - 1 - k < 16 by omega)
  simp [show 16 - 1 - k = 15 - k from rfl, show 15 - k < 16 from by omega, show pos (15 - k) < 16 from by simpa using hp]

/-- The block. -/
def jB (d f : Bool) (Z : List Int) : List Nat := lay z8 true 0 64 (jG d f Z)
theorem jB_length (d f : Bool) (Z : List Int) : (jB d f Z).length = 8 := by unfold jB; rw [lay_length]; rfl
theorem jB_lt (d f : Bool) (Z : List Int) : ∀ x ∈ jB d f Z, x < 256 := lay_lt _ _ _ _ _
theorem jB_bit (d f : Bool) (Z : List Int) (i : Nat) (h : i < 64) : bt (jB d f Z) true i = jG d f Z i := by
  unfold jB
  rw [lay_bit _ _ _ _ _ _ (by show i < 8 * 8; omega), if_pos (by omega), Nat.sub_zero]
def jV (d f : Bool) (Z : List Int) : List Nat := if okP d Z then jB d f Z else []
def jE (d : Bool) (Z : List Int) : Int := if okP d Z then 0 else 1
theorem jV_ok {d f : Bool} {Z : List Int} (h : okP d Z) : jV d f Z = jB d f Z := if_pos h
theorem jV_no {d f : Bool} {Z : List Int} (h : ¬ okP d Z) : jV d f Z = [] := if_neg h
theorem jE_ok {d : Bool} {Z : List Int} (h : okP d Z) : jE d Z = 0 := if_pos h
theorem jE_no {d : Bool} {Z : List Int} (h : ¬ okP d Z) : jE d Z = 1 := if_neg h

theorem G_jB (d f : Bool) (Z : List Int) (p m N : Nat) (hp : p + m ≤ 64) (hN : N < 2 ^ m) (h : ∀ k, k < m → N.testBit (m - 1 - k) = jG d f Z (p + k)) : G (jB d f Z) p m = (N : Int) := by
  unfold G
  rw [getN_eq hN fun k hk => ?_]
  rw [jB_bit _ _ _ _ (by omega), ← h (m - 1 - k) (by omega), show m - 1 - (m - 1 - k) = k by omega]
theorem toNat_lt {z : Int} {m : Nat} (h : 0 ≤ z ∧ z < ((2 ^ m : Nat) : Int)) : z.toNat < 2 ^ m := by omega
theorem back_D (d f : Bool) (Z : List Int) : pD (jB d f Z) = d := by unfold pD; rw [jB_bit _ _ _ _ (by omega)]; rfl
theorem back_F (d f : Bool) (Z : List Int) : pF (jB d f Z) = f := by unfold pF; rw [jB_bit _ _ _ _ (by omega)]; rfl
/-- A block's parts are those of which it was made. -/
theorem back_Z (d f : Bool) (Z : List Int) (hZ : Z.length = 24) (h : okP d Z) : pZ (jB d f Z) = Z := by
  refine getD_ext (by rw [pZ_length, hZ]) fun j hj => ?_
  rw [pZ_length] at hj
  rw [pZ_getD _ _ hj]
  have hw := w1_bd d
  have hw2 := w2_bd d
  have hs := w_sum d
  by_cases h1 : j < 3
  · rw [val_a _ _ h1, back_D, G_jB d f Z _ _ (Z.getD j 0).toNat (by omega) (toNat_lt (ok_a h h1)) fun k hk => jG_a d f Z j k h1 hk]
    have := ok_a h h1
    omega
  · by_cases h2 : j < 6
    · obtain ⟨c, rfl⟩ : ∃ c, j = 3 + c := ⟨j - 3, by omega⟩
      have hp : (0 : Int) < ((2 ^ w2 d : Nat) : Int) := by have := Nat.two_pow_pos (w2 d); omega
      have e1 := Int.emod_nonneg (Z.getD (3 + c) 0) (Int.ne_of_gt hp)
      have e2 := Int.emod_lt_of_pos (Z.getD (3 + c) 0) hp
      rw [val_b _ _ (by omega), back_D, G_jB d f Z _ _ (Z.getD (3 + c) 0 % ((2 ^ w2 d : Nat) : Int)).toNat (by omega) (by omega) fun k hk => jG_b d f Z c k (by omega) hk]
      obtain ⟨h3, h4⟩ := ok_b h (show c < 3 by omega)
      rw [Int.toNat_of_nonneg e1]
      cases d
      · have := h4 rfl
        unfold sg
        rw [if_neg (by simp)]
        exact Int.emod_eq_of_lt this.1 this.2
      · have := h3 rfl
        have e : ((2 ^ w2 true : Nat) : Int) = 8 := rfl
        rw [e]
        unfold sg
        by_cases h5 : 4 ≤ Z.getD (3 + c) 0 % 8
        · rw [if_pos ⟨rfl, h5⟩]; omega
        · rw [if_neg fun k => h5 k.2]; omega
    · by_cases h3 : j < 8
      · obtain ⟨k, rfl⟩ : ∃ k, j = 6 + k := ⟨j - 6, by omega⟩
        have := ok_t h (show k < 2 by omega)
        rw [val_t _ _ (by omega), G_jB d f Z _ _ (Z.getD (6 + k) 0).toNat (by omega) (by omega) fun q hq => jG_t d f Z k q (by omega) hq]
        omega
      · obtain ⟨i, rfl⟩ : ∃ i, j = 8 + i := ⟨j - 8, by omega⟩
        have hi : i < 16 := by omega
        have hp := pos_lt hi
        have := ok_w h hi
        have e1 := jG_hi d f Z (pos i) hp
        have e2 := jG_lo d f Z (pos i) hp
        rw [pos_pos hi] at e1 e2
        rw [val_w]
        unfold G
        rw [getN1, getN1, jB_bit _ _ _ _ (by omega), jB_bit _ _ _ _ (by omega), e1, e2]
        obtain ⟨n, hn⟩ : ∃ n : Nat, Z.getD (8 + i) 0 = (n : Int) := ⟨_, (Int.toNat_of_nonneg this.1).symm⟩
        rw [hn] at this ⊢
        rw [Int.toNat_natCast, ← bit_div, ← bit_div]
        omega
/-- A block is made of its parts. -/
theorem forth (xs : List Nat) (hl : xs.length = 8) (hx : ∀ x ∈ xs, x < 256) : jB (pD xs) (pF xs) (pZ xs) = xs := by
  refine ext_bits true (by rw [jB_length, hl]) (jB_lt _ _ _) hx fun i hi => ?_
  rw [jB_length] at hi
  rw [jB_bit _ _ _ _ (by omega)]
  unfold jG
  have hw := w1_bd (pD xs)
  have hw2 := w2_bd (pD xs)
  have hs := w_sum (pD xs)
  by_cases h1 : i < 24
  · rw [if_pos h1]
    by_cases h2 : i % 8 < w1 (pD xs)
    · rw [if_pos h2, pZ_getD _ _ (by omega), val_a _ _ (by omega)]
      unfold G
      rw [Int.toNat_natCast, getN_bit]
      simp only [show w1 (pD xs) - 1 - i % 8 < w1 (pD xs) from by omega, decide_true, Bool.true_and]
      congr 1
      omega
    · rw [if_neg h2, pZ_getD _ _ (by omega), val_b _ _ (by omega), sg_mod]
      unfold G
      rw [Int.toNat_natCast, getN_bit]
      simp only [show 7 - i % 8 < w2 (pD xs) from by omega, decide_true, Bool.true_and]
      congr 1
      omega
  · rw [if_neg h1]
    by_cases h2 : i < 30
    · rw [if_pos h2, pZ_getD _ _ (by omega), val_t _ _ (by omega)]
      unfold G
      rw [Int.toNat_natCast, getN_bit]
      simp only [show 2 - (i - 24) % 3 < 3 from by omega, decide_true, Bool.true_and]
      congr 1
      omega
    · rw [if_neg h2]
      by_cases h3 : i = 30
      · subst h3; rw [if_pos rfl]; rfl
      · rw [if_neg h3]
        by_cases h4 : i = 31
        · subst h4; rw [if_pos rfl]; rfl
        · rw [if_neg h4]
          have key : ∀ k, k < 16 → (pZ xs).getD (8 + pos k) 0 = 2 * G xs (47 - k) 1 + G xs (63 - k) 1 := fun k hk => by
            rw [pZ_getD _ _ (by have := pos_lt hk; omega), val_w, pos_pos hk]
          have kb : ∀ a b : Bool, ((2 * ((a.toNat : Nat) : Int) + ((b.toNat : Nat) : Int)).toNat.testBit 1 = a) ∧ ((2 * ((a.toNat : Nat) : Int) + ((b.toNat : Nat) : Int)).toNat.testBit 0 = b) := by decide
          by_cases h5 : i < 48
          · rw [if_pos h5, key _ (by omega)]
            unfold G
            rw [getN1, getN1, (kb _ _).1]
            congr 1
            omega
          · rw [if_neg h5, key _ (by omega)]
            unfold G
            rw [getN1, getN1, (kb _ _).2]
            congr 1
            omega
end Eo
end Go.Proofs.YtgcijioiicmjiaaDoor
set_option linter.all false
namespace Go.Proofs.YtgcijioiicmjiaaDoor
open Bi Lv
namespace Eo

/-! Tables and halves. -/
def numL : List Int := [2, 8, 5, 17, 9, 29, 13, 42, 18, 60, 24, 80, 33, 106, 47, 183]
def tab4 (k : Nat) : List Int := [numL.getD (2 * k) 0, numL.getD (2 * k + 1) 0, -numL.getD (2 * k) 0, -numL.getD (2 * k + 1) 0]
def tabV (n : Int) : List Int := tab4 (n % 8).toNat
theorem tabV_length (n : Int) : (tabV n).length = 4 := rfl
theorem tab4_bd : ∀ k, k < 8 → ∀ i, i < 4 → -183 ≤ (tab4 k).getD i 0 ∧ (tab4 k).getD i 0 ≤ 183 := by decide
theorem tabV_bd (n : Int) (i : Nat) : -183 ≤ (tabV n).getD i 0 ∧ (tabV n).getD i 0 ≤ 183 := by
  rcases Nat.lt_or_ge i 4 with h | h
  · exact tab4_bd _ (by omega) i h
  · rw [List.getD_eq_getElem?_getD, List.getElem?_eq_none (by rw [tabV_length]; exact h)]; decide
theorem tabV_id {n : Int} (h : 0 ≤ n ∧ n < 8) : tabV n = tab4 n.toNat := by unfold tabV; rw [Int.emod_eq_of_lt h.1 h.2]
def halfV (f : Bool) (t : Int) : Int := if f = true then t % 16 / 8 else t % 16 % 4 / 2
def halfN (f : Bool) (i : Nat) : Nat := if f = true then i / 8 else i % 4 / 2
theorem halfN_lt (f : Bool) {i : Nat} (h : i < 16) : halfN f i < 2 := by unfold halfN; split <;> omega
theorem halfV_nat (f : Bool) {i : Nat} (h : i < 16) : halfV f (i : Int) = ((halfN f i : Nat) : Int) := by
  unfold halfV halfN; split <;> omega
theorem halfN_pos (f : Bool) {i : Nat} (h : i < 16) : halfN (!f) (pos i) = halfN f i := by
  have k : ∀ f : Bool, ∀ i, i < 16 → halfN (!f) (pos i) = halfN f i := by decide
  exact k f i h

/-! The two colours. -/
def seV (d : Bool) (Z : List Int) (c : Nat) : Int := if d = true then Z.getD (3 + c) 0 + Z.getD c 0 else Z.getD (3 + c) 0
def baE (d : Bool) (Z : List Int) (j : Nat) : Int := if j % 4 = 3 then 255 else if j < 4 then wideV (Z.getD j 0) (w1 d : Int) else wideV (seV d Z (j - 4)) (w1 d : Int)
def bS (d : Bool) (Z : List Int) (S : Nat → Bool) : List Int := (List.range 8).map fun j => if j % 4 = 3 then 255 else if S (j % 4) then baE d Z j else 0
def baV (d : Bool) (Z : List Int) : List Int := (List.range 8).map (baE d Z)
theorem bS_length (d : Bool) (Z : List Int) (S : Nat → Bool) : (bS d Z S).length = 8 := by simp [bS]
theorem baV_length (d : Bool) (Z : List Int) : (baV d Z).length = 8 := by simp [baV]
theorem bS_getD (d : Bool) (Z : List Int) (S : Nat → Bool) (j : Nat) (h : j < 8) : (bS d Z S).getD j 0 = if j % 4 = 3 then 255 else if S (j % 4) then baE d Z j else 0 := by simp [bS, h]
theorem baV_getD (d : Bool) (Z : List Int) (j : Nat) (h : j < 8) : (baV d Z).getD j 0 = baE d Z j := by simp [baV, h]
theorem baE_bd (d : Bool) (Z : List Int) (j : Nat) : 0 ≤ baE d Z j ∧ baE d Z j ≤ 255 := by
  have h1 := wideV_bd (Z.getD j 0) (w1 d : Int)
  have h2 := wideV_bd (seV d Z (j - 4)) (w1 d : Int)
  unfold baE
  split
  · omega
  · split <;> omega
theorem baV_bd (d : Bool) (Z : List Int) (j : Nat) : 0 ≤ (baV d Z).getD j 0 ∧ (baV d Z).getD j 0 ≤ 255 := by
  rcases Nat.lt_or_ge j 8 with h | h
  · rw [baV_getD _ _ _ h]; exact baE_bd d Z j
  · rw [List.getD_eq_getElem?_getD, List.getElem?_eq_none (by rw [baV_length]; exact h)]; decide
theorem bS_none (d : Bool) (Z : List Int) (S : Nat → Bool) (h : ∀ j, j < 3 → S j = false) : bS d Z S = [0, 0, 0, 255, 0, 0, 0, 255] := by
  refine getD_ext (by rw [bS_length]; rfl) fun j hj => ?_
  rw [bS_length] at hj
  rw [bS_getD _ _ _ _ hj]
  by_cases h3 : j % 4 = 3
  · rw [if_pos h3]
    obtain rfl | rfl : j = 3 ∨ j = 7 := by omega
    all_goals rfl
  · rw [if_neg h3, h _ (by omega), if_neg (by simp)]
    obtain rfl | rfl | rfl | rfl | rfl | rfl : j = 0 ∨ j = 1 ∨ j = 2 ∨ j = 4 ∨ j = 5 ∨ j = 6 := by omega
    all_goals rfl
theorem bS_full (d : Bool) (Z : List Int) (S : Nat → Bool) (h : ∀ j, j < 3 → S j = true) : bS d Z S = baV d Z := by
  refine getD_ext (by rw [bS_length, baV_length]) fun j hj => ?_
  rw [bS_length] at hj
  rw [bS_getD _ _ _ _ hj, baV_getD _ _ _ hj]
  by_cases h3 : j % 4 = 3
  · rw [if_pos h3]; unfold baE; rw [if_pos h3]
  · rw [if_neg h3, h _ (by omega), if_pos rfl]
theorem bS_set (d : Bool) (Z : List Int) {S S' : Nat → Bool} {c : Nat} (hc : c < 3) (a b : Int) (ha : a = wideV (Z.getD c 0) (w1 d : Int)) (hb : b = wideV (seV d Z c) (w1 d : Int)) (h : ∀ j, j < 3 → S' j = (S j || decide (j = c))) :
    ((bS d Z S).set c a).set (4 + c) b = bS d Z S' := by
  refine getD_ext (by simp [bS_length]) fun j hj => ?_
  rw [List.length_set, List.length_set, bS_length] at hj
  rw [getD_seti _ _ _ _ (by rw [List.length_set, bS_length]; omega), getD_seti _ _ _ _ (by rw [bS_length]; omega), bS_getD _ _ _ _ hj, bS_getD _ _ _ _ hj]
  by_cases h3 : j % 4 = 3
  · rw [if_pos h3, if_pos h3, if_neg (by omega), if_neg (by omega)]
  · rw [if_neg h3, if_neg h3, h _ (by omega)]
    by_cases h4 : j = 4 + c
    · subst h4
      rw [if_pos rfl]
      simp only [show (4 + c) % 4 = c from by omega, decide_true, Bool.or_true, if_true]
      unfold baE
      rw [if_neg (by omega), if_neg (by omega), show 4 + c - 4 = c by omega]
      exact hb
    · rw [if_neg h4]
      by_cases h5 : j = c
      · subst h5
        rw [if_pos rfl]
        simp only [show j % 4 = j from by omega, decide_true, Bool.or_true, if_true]
        unfold baE
        rw [if_neg (by omega), if_pos (by omega)]
        exact ha
      · rw [if_neg h5]
        have e : decide (j % 4 = c) = false := by simp; omega
        rw [e, Bool.or_false]
def sU (c j : Nat) : Bool := decide (j < c)
def sD (k j : Nat) : Bool := decide (3 ≤ j + k)

/-- Does a difference go too far? -/
def oob (d : Bool) (Z : List Int) (c : Nat) : Bool := d && !decide (0 ≤ seV d Z c ∧ seV d Z c < 32)
def farP (d : Bool) (Z : List Int) : Nat → Nat
  | 0 => 3
  | c + 1 => if farP d Z c = 3 ∧ oob d Z c = true then c else farP d Z c
def badP (d : Bool) (Z : List Int) : Nat → Nat
  | 0 => 3
  | k + 1 => if oob d Z (2 - k) = true then 2 - k else badP d Z k
theorem far_bad (d : Bool) (Z : List Int) : badP d Z 3 = farP d Z 3 := by
  unfold badP badP badP badP farP farP farP farP
  cases oob d Z 0 <;> cases oob d Z 1 <;> cases h : oob d Z 2 <;> simp [h]
theorem farP_le (d : Bool) (Z : List Int) : ∀ c, c ≤ 3 → farP d Z c ≤ 3
  | 0, _ => Nat.le_refl _
  | c + 1, h => by rw [farP]; split; omega; exact farP_le d Z c (by omega)
theorem farP_no (Z : List Int) : ∀ c, farP false Z c = 3
  | 0 => rfl
  | c + 1 => by rw [farP, if_neg (by simp [oob]), farP_no Z c]
theorem badP_no (Z : List Int) : ∀ c, badP false Z c = 3
  | 0 => rfl
  | c + 1 => by rw [badP, if_neg (by simp [oob]), badP_no Z c]

/-! Texels. -/
def addV (t : List Int) (n : Int) : List Int := [clampV (t.getD 0 0 + n) 255, clampV (t.getD 1 0 + n) 255, clampV (t.getD 2 0 + n) 255, t.getD 3 0]
def addP (t : List Int) (n : Int) : Nat → List Int
  | 0 => t
  | c + 1 => (addP t n c).set c (clampV (t.getD c 0 + n) 255)
theorem addP_length (t : List Int) (n : Int) : ∀ c, (addP t n c).length = t.length
  | 0 => rfl
  | c + 1 => by rw [addP, List.length_set, addP_length t n c]
theorem addP_getD (t : List Int) (n : Int) : ∀ c j, c ≤ t.length → (addP t n c).getD j 0 = if j < c then clampV (t.getD j 0 + n) 255 else t.getD j 0
  | 0, j, _ => by simp [addP]
  | c + 1, j, h => by
    rw [addP, getD_seti _ _ _ _ (by rw [addP_length]; omega)]
    by_cases hj : j = c
    · subst hj; rw [if_pos rfl, if_pos (by omega)]
    · rw [if_neg hj, addP_getD t n c j (by omega)]
      by_cases h1 : j < c
      · rw [if_pos h1, if_pos (by omega)]
      · rw [if_neg h1, if_neg (by omega)]
theorem addP_full (t : List Int) (n : Int) (h : t.length = 4) : addP t n 3 = addV t n := by
  refine getD_ext (by rw [addP_length, h]; rfl) fun j hj => ?_
  rw [addP_length, h] at hj
  rw [addP_getD _ _ _ _ (by omega)]
  obtain rfl | rfl | rfl | rfl : j = 0 ∨ j = 1 ∨ j = 2 ∨ j = 3 := by omega
  all_goals rfl
/-- Rows of four numbers, the first k of them laid over z. -/
def fl (z : List Int) (f : Nat → List Int) : Nat → List Int
  | 0 => z
  | k + 1 => spl (fl z f k) (k * 4) (f k)
theorem fl_length (z : List Int) (f : Nat → List Int) : ∀ k, (fl z f k).length = z.length
  | 0 => rfl
  | k + 1 => by rw [fl, spl_length, fl_length z f k]
theorem fl_getD (z : List Int) (f : Nat → List Int) (hf : ∀ i, (f i).length = 4) : ∀ k, k * 4 ≤ z.length → ∀ j, (fl z f k).getD j 0 = if j / 4 < k then (f (j / 4)).getD (j % 4) 0 else z.getD j 0
  | 0, _, j => by simp [fl]
  | k + 1, h, j => by
    rw [fl, spl_getD _ _ _ _ (by rw [fl_length, hf]; omega), hf]
    by_cases h1 : k * 4 ≤ j ∧ j < k * 4 + 4
    · rw [if_pos h1, if_pos (by omega), show j / 4 = k by omega, show j - k * 4 = j % 4 by omega]
    · rw [if_neg h1, fl_getD z f hf k (by omega)]
      by_cases h2 : j / 4 < k
      · rw [if_pos h2, if_pos (by omega)]
      · rw [if_neg h2, if_neg (by omega)]
theorem fl_row (z : List Int) (f : Nat → List Int) (hf : ∀ i, (f i).length = 4) (n : Nat) (hn : n * 4 ≤ z.length) (i : Nat) (hi : i < n) : ((fl z f n).drop (i * 4)).take 4 = f i := by
  refine getD_ext (by rw [List.length_take, List.length_drop, fl_length, hf]; omega) fun j hj => ?_
  have hj4 : j < 4 := by rw [List.length_take] at hj; omega
  have e : (((fl z f n).drop (i * 4)).take 4).getD j 0 = (fl z f n).getD (i * 4 + j) 0 := by
    rw [List.getD_eq_getElem?_getD, List.getElem?_take, if_pos hj4, List.getElem?_drop, ← List.getD_eq_getElem?_getD]
  rw [e, fl_getD z f hf n hn, if_pos (by omega), show (i * 4 + j) / 4 = i by omega, show (i * 4 + j) % 4 = j by omega]
def z64 : List Int := List.replicate 64 0
theorem z64_length : z64.length = 64 := by simp [z64]
def bRow (d : Bool) (Z : List Int) (h : Nat) : List Int := ((baV d Z).drop (h * 4)).take 4
theorem bRow_length (d : Bool) (Z : List Int) (h : Nat) (hh : h < 2) : (bRow d Z h).length = 4 := by
  unfold bRow; rw [List.length_take, List.length_drop, baV_length]; omega
theorem bRow_bd (d : Bool) (Z : List Int) (h : Nat) (j : Nat) : 0 ≤ (bRow d Z h).getD j 0 ∧ (bRow d Z h).getD j 0 ≤ 255 := by
  have hb := baV_bd d Z (h * 4 + j)
  unfold bRow
  rw [List.getD_eq_getElem?_getD, List.getElem?_take]
  split
  · rw [List.getElem?_drop, ← List.getD_eq_getElem?_getD]; exact hb
  · decide
/-- What is added at texel i; its colour; all of them. -/
def numV (f : Bool) (Z : List Int) (i : Nat) : Int := (tabV (Z.getD (6 + halfN f i) 0)).getD (Z.getD (8 + i) 0).toNat 0
def txV (d f : Bool) (Z : List Int) (i : Nat) : List Int := addV (bRow d Z (halfN f i)) (numV f Z i)
theorem txV_length (d f : Bool) (Z : List Int) (i : Nat) : (txV d f Z i).length = 4 := rfl
def paV (d f : Bool) (Z : List Int) : List Int := fl z64 (txV d f Z) 16
theorem paV_length (d f : Bool) (Z : List Int) : (paV d f Z).length = 64 := by rw [paV, fl_length]; exact z64_length
theorem paV_row (d f : Bool) (Z : List Int) (i : Nat) (h : i < 16) : ((paV d f Z).drop (i * 4)).take 4 = txV d f Z i :=
  fl_row _ _ (fun _ => rfl) 16 (by rw [z64_length]; omega) i h

/-! Bytes. -/
def paE (n : Nat) : Int := if n = 8 then 0 else 1
def deV (n : Nat) (xs : List Nat) : List Int := if n = 8 then paV (pD xs) (pF xs) (pZ xs) else z64
def pa1 (n : Nat) (xs : List Nat) : Bool := if n = 8 then pD xs else false
def pa2 (n : Nat) (xs : List Nat) : Bool := if n = 8 then pF xs else false
def pa3 (n : Nat) (xs : List Nat) : List Int := if n = 8 then pZ xs else z24
theorem pa3_length (n : Nat) (xs : List Nat) : (pa3 n xs).length = 24 := by unfold pa3; split; exact pZ_length _; rfl
theorem deV_length (n : Nat) (xs : List Nat) : (deV n xs).length = 64 := by unfold deV; split; exact paV_length _ _ _; exact z64_length

/-! Columns as rows. -/
def trP (Z : List Int) : Nat → List Int
  | 0 => Z
  | m + 1 => (trP Z m).set (8 + m) (Z.getD (8 + pos m) 0)
theorem trP_length (Z : List Int) : ∀ m, (trP Z m).length = Z.length
  | 0 => rfl
  | m + 1 => by rw [trP, List.length_set, trP_length Z m]
theorem trP_getD (Z : List Int) (hZ : Z.length = 24) : ∀ m j, m ≤ 16 → (trP Z m).getD j 0 = if 8 ≤ j ∧ j < 8 + m then Z.getD (8 + pos (j - 8)) 0 else Z.getD j 0
  | 0, j, _ => by rw [if_neg (by omega)]; rfl
  | m + 1, j, h => by
    rw [trP, getD_seti _ _ _ _ (by rw [trP_length]; omega)]
    by_cases hj : j = 8 + m
    · subst hj; rw [if_pos rfl, if_pos (by omega), show 8 + m - 8 = m by omega]
    · rw [if_neg hj, trP_getD Z hZ m j (by omega)]
      by_cases h1 : 8 ≤ j ∧ j < 8 + m
      · rw [if_pos h1, if_pos (by omega)]
      · rw [if_neg h1, if_neg (by omega)]
theorem tr_lowest (Z : List Int) (hZ : Z.length = 24) (j : Nat) (h : j < 8) : (trP Z 16).getD j 0 = Z.getD j 0 := by
  rw [trP_getD Z hZ 16 j (by omega), if_neg (by omega)]
theorem ok_tr {d : Bool} {Z : List Int} (hZ : Z.length = 24) (h : okP d Z) : okP d (trP Z 16) := by
  intro j hj
  rw [trP_getD Z hZ 16 j (by omega)]
  by_cases h8 : 8 ≤ j ∧ j < 8 + 16
  · rw [if_pos h8]
    have := ok_w h (pos_lt (show j - 8 < 16 by omega))
    unfold lo hi
    rw [if_neg (by omega), if_neg (by omega), if_neg (by omega), if_neg (by omega)]
    exact this
  · rw [if_neg h8]
    exact h j hj
theorem tr_base (d : Bool) (Z : List Int) (hZ : Z.length = 24) : baV d (trP Z 16) = baV d Z := by
  unfold baV
  apply List.map_congr_left
  intro j hj
  have hj8 : j < 8 := by simpa using hj
  have hs : ∀ c, c < 3 → seV d (trP Z 16) c = seV d Z c := fun c hc => by
    unfold seV
    rw [tr_lowest Z hZ _ (by omega), tr_lowest Z hZ _ (by omega)]
  unfold baE
  by_cases h3 : j % 4 = 3
  · rw [if_pos h3, if_pos h3]
  · rw [if_neg h3, if_neg h3]
    by_cases h4 : j < 4
    · rw [if_pos h4, if_pos h4, tr_lowest Z hZ _ (by omega)]
    · rw [if_neg h4, if_neg h4, hs _ (by omega)]
theorem tr_texel (d f : Bool) (Z : List Int) (hZ : Z.length = 24) (i : Nat) (hi : i < 16) : txV d (!f) (trP Z 16) (pos i) = txV d f Z i := by
  have hp := pos_lt hi
  have hh := halfN_lt f hi
  unfold txV numV bRow
  rw [halfN_pos f hi, tr_base d Z hZ, tr_lowest Z hZ _ (by omega), trP_getD Z hZ 16 _ (by omega), if_pos (by omega), show 8 + pos i - 8 = pos i by omega, pos_pos hi]
end Eo
end Go.Proofs.YtgcijioiicmjiaaDoor
