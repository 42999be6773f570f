/- What the law on turned images needs besides: images in loops, images of a slice of images in a plain region. -/
import Derived.Test.YtbpdaijmclcbdaaMpTpure
import Derived.Test.YtbpdaijmclcbdaaMpAny
namespace Go.Proofs.Ytbpdaijmclcbdaa
open Go.RowKit
open Im Mp

theorem turned_any (v : Value) (d a : Nat) (xs : List Nat) (w : World) (hr : rightP (d : Int) (a : Int) xs.length) (h : Img w v (d : Int) (a : Int) xs) :
    Calls Try.prog 32 #[v] w fun e w' => ∃ v', e = .returned v' ∧ Img w' v' (a : Int) (d : Int) (tu (d : Int) (a : Int) xs) ∧ Below w.heap.size w w' := by
  obtain ⟨A, n, c, rfl, hn, hB⟩ := h
  refine (turned_ok d a A n c xs w (by rw [← hB.1]; exact hr) hB).mono ?_
  rintro e w' ⟨v', rfl, hI, hb⟩
  exact ⟨v', rfl, hI.img, hb⟩
theorem tu_right {d a : Nat} {n : Nat} (h : rightP (d : Int) (a : Int) n) (xs : List Nat) : rightP (a : Int) (d : Int) (tu (d : Int) (a : Int) xs).length := by
  obtain ⟨⟨h1, h2, h3, h4⟩, _⟩ := h
  refine ⟨⟨h3, h4, h1, h2⟩, ?_⟩
  rw [show (tu (d : Int) (a : Int) xs).length = 4 * (a * d) from tuK_length _ _ _ _]
  simp [Int.mul_assoc]
/-- An image's bytes lie in no block that holds an image's own three cells. -/
theorem Kn.img_kind {w u : World} {F : List (World → Prop)} {g : Nat} {ty : TypeId} {W1 H1 : Int} {A1 : Option Addr} {n1 c1 : Nat} (E : Kn w [.row g ty (imL W1 H1 A1 n1 c1)] F u) {v : Value} {W H : Int} {xs : List Nat} (h : Img u v W H xs) : Kn w [.row g ty (imL W1 H1 A1 n1 c1)] (imgF v W H xs :: F) u :=
  E.fact fun u' hk => by
    obtain ⟨A, n, c, e, hn, hB⟩ := h
    refine ⟨A, n, c, e, hn, hB.1, hB.2.1, fun h0 => ?_⟩
    obtain ⟨b, off, e1, hb, hc⟩ := hB.2.2 h0
    have hrow : Row u g ty (imL W1 H1 A1 n1 c1) := E.row
    have hne : b ∉ blocks [Res.row g ty (imL W1 H1 A1 n1 c1)] := by
      intro hm
      obtain rfl : g = b := by have e : b = g := by simpa [blocks, Res.block] using hm
                               exact e.symm
      have h1 := hc 0 h0
      rw [Nat.add_zero] at h1
      have hcell : ∀ i v, (imL W1 H1 A1 n1 c1)[i]? = some v → u.cell? ⟨g, i, none⟩ = some v := hrow.cell
      match off with
      | 0 => rw [hcell 0 _ rfl] at h1; cases h1
      | 1 => rw [hcell 1 _ rfl] at h1; cases h1
      | 2 => rw [hcell 2 _ rfl] at h1; cases h1
      | k + 3 => rw [cell_of_row u g (k + 3) _ _ (0, 0) hrow] at h1; simp at h1
    refine ⟨b, off, e1, Nat.lt_of_lt_of_le hb hk.size, fun i hi => ?_⟩
    rw [World.cell?_of_block (w := u) (hk.block b hb hne)]
    exact hc i hi
/-- The first j texels are of the colour t. -/
def Done (t : List Int) (j : Nat) (ys : List Nat) : Prop := ∀ s, s < j → ∀ ch, ch < 4 → ys.getD (4 * s + ch) 0 = cl (t.getD ch 0)
theorem Done.step {t : List Int} {j : Nat} {ys : List Nat} (h : Done t j ys) (hl : 4 * j + 4 ≤ ys.length) : Done t (j + 1) (put ys (4 * j) t) := by
  intro s hs ch hc
  rw [put_getD _ _ _ hl]
  by_cases e : s = j
  · subst e
    rw [if_pos ⟨by omega, by omega⟩, show 4 * s + ch - 4 * s = ch from by omega]
  · rw [if_neg (by omega)]
    exact h s (by omega) ch hc
theorem Done.one {t : List Int} {d a : Nat} {ys : List Nat} (h : Done t (a * d) ys) : OneC (d : Int) (a : Int) ys (fun ch => cl (t.getD ch 0)) := by
  intro X Y hi ch hc
  obtain ⟨h1, h2, h3, h4⟩ := hi
  obtain ⟨q, rfl⟩ : ∃ q : Nat, X = (q : Int) := ⟨X.toNat, by omega⟩
  obtain ⟨k, rfl⟩ : ∃ k : Nat, Y = (k : Int) := ⟨Y.toNat, by omega⟩
  rw [plc_nat]
  exact h _ (by rw [Nat.mul_comm a d]; exact row_lt (by omega) (by omega)) ch hc
section
variable {w u : World} {R : List Res} {F : List (World → Prop)} {ops : Array Oper} {rest : List Oper} {o : Oper} {a : Act} {Q : Exit → Act → World → Prop}
/-- An image loaded out of a slice of images, in a plain region. -/
theorem kn_image (E : Kn w R F u) (hgd : o.guard = none) {x : Operand} (ho : o.op = .load 24 x) {g off i : Nat} (hx : a.eval x = .pointer (some ⟨g, off + i * 3, none⟩)) {n : Nat} {vs : List Value} {l : List (Int × Int × List Nat)} (h1 : rsF (some ⟨g, off, none⟩) (n * 3) (cellsOf vs) ∈ F) (h2 : imgsF vs l ∈ F) {W H : Int} {A : Option Addr} {m c : Nat} (hv : vs[i]? = some (Go.Proofs.Ytbpdaijmclcbdaa.img W H A m c)) (hn : i < n)
    (h : wpList Try.prog ops Q rest (a.put o.dst (Go.Proofs.Ytbpdaijmclcbdaa.img W H A m c)) u) : wpList Try.prog ops Q (o :: rest) a u := by
  have inst : Aggr 24 3 := inferInstance
  obtain ⟨d, hu, hd⟩ := inst.desc
  refine wpList_plain hgd fun _ hK => wp_load_mid 24 x ho g (off + i * 3) hx (imL W H A m c) d (fun j v hj => ?_) hu hd (by rw [inst.size]; rfl) (hK _ _ h)
  obtain ⟨b', off', e, _, hc⟩ := (E.get h1).2 (by omega)
  cases e
  have h3 : j < 3 := (List.getElem?_eq_some_iff.1 hj).1
  rw [Nat.add_assoc]
  refine hc (i * 3 + j) v ?_
  rw [cellsOf_get vs i j _ (imgsF.three (E.get h2)) hv h3]
  exact hj
/-- A number of such an image, in a guarded place. -/
theorem kn_image_if (E : Kn w R F u) (hw : Region.wanted o (yielded ops a.tmps) = true) {ty : TypeId} {x : Operand} (ho : o.op = .load ty x) {g off i j : Nat} (hx : a.eval x = .pointer (some ⟨g, off + i * 3 + j, none⟩)) [Scal ty] {n : Nat} {vs : List Value} {l : List (Int × Int × List Nat)} (h1 : rsF (some ⟨g, off, none⟩) (n * 3) (cellsOf vs) ∈ F) (h2 : imgsF vs l ∈ F) {W H : Int} {A : Option Addr} {m c : Nat} (hv : vs[i]? = some (Go.Proofs.Ytbpdaijmclcbdaa.img W H A m c)) (hn : i < n) {v : Value} (hj : (imL W H A m c)[j]? = some v)
    (h : wpList Try.prog ops Q rest (a.put o.dst v) u) : wpList Try.prog ops Q (o :: rest) a u := by
  obtain ⟨b', off', e, _, hc⟩ := (E.get h1).2 (by omega)
  cases e
  have h3 : j < 3 := (List.getElem?_eq_some_iff.1 hj).1
  have hcl : u.cell? ⟨g, off + i * 3 + j, none⟩ = some v := by
    rw [Nat.add_assoc]
    refine hc (i * 3 + j) v ?_
    rw [cellsOf_get vs i j _ (imgsF.three (E.get h2)) hv h3]
    exact hj
  refine wpList_wanted hw fun _ hK => ?_
  unfold Oper.wp execOp
  simp only [ho, hx, Instr.loadAt, Instr.sureAddr, loadVar, Sem.run_bind, Sem.run_pure, Result.andThen_ok, run_isAgg_no, Bool.false_eq_true, if_false, run_load, hcl]
  exact hK _ _ h
end
end Go.Proofs.Ytbpdaijmclcbdaa
