/- A loop over the sizes: what its body does, once. -/
import Derived.Test.YtbpdaijmclcbdaaMpIter
namespace Go.Proofs.Ytbpdaijmclcbdaa
open Go.RowKit Go.Shelf
open Im Mp
attribute [local go_sem] Oper.semAt_some

/-- The blocks that a body of such a loop leaves alone: the iterator's two, and all that is newer than B. -/
def Far (B gw gh k : Nat) : Prop := B ≤ k ∨ k = gw ∨ k = gh
structure Leaves (B gw gh : Nat) (W W' : World) : Prop where
  size : W.heap.size ≤ W'.heap.size
  same : ∀ k, k < W.heap.size → Far B gw gh k → W'.heap[k]? = W.heap[k]?
/-- A reading of memory that none of these blocks holds. -/
def Apart (B gw gh : Nat) (I : List (Int × Int) → World → Prop) : Prop := ∀ s A C row, I s A → A.grownBy C row → (∀ r, row = some r → Far B gw gh r) → I s C

/-- How a round ends. -/
def RoundEnd (B gw gh : Nat) (I X : List (Int × Int) → World → Prop) (s : List (Int × Int)) (W : World) : Exit → Act → World → Prop
  | .normal, _, W' => Leaves B gw gh W W' ∧ I s W'
  | .ret, _, W' => Leaves B gw gh W W' ∧ X s W'
  | _, _, _ => False

theorem range_sizes (n : Nat) {g : Operand} {ps : Array Tmp} {assign body : Code} {Q : Exit → Act → World → Prop} {a : Act} {w : World} {gw gh : Nat} (hn : 2 ≤ n)
    (hg : a.eval g = .func (.func 61) #[] #[.pointer (some ⟨gw, 0, none⟩), .pointer (some ⟨gh, 0, none⟩)]) (hps : ps.size = 2) (hne : gw ≠ gh)
    {W0 H0 : Int} (hW1 : 1 ≤ W0) (hW2 : W0 ≤ 9223372036854775807) (hH1 : 1 ≤ H0) (hH2 : H0 ≤ 9223372036854775807) (hw : Row w gw 3 [.int .i64 W0]) (hh : Row w gh 3 [.int .i64 H0])
    (I X : List (Int × Int) → World → Prop) (hI : Apart w.heap.size gw gh I) (hX : Apart w.heap.size gw gh X) (h0 : I [] w) (a₁ : Int × Int → Act)
    (hassign : ∀ (l : Nat) (x : Int × Int) (W : World) (K : Act → World → Prop), K (a₁ x) W →
      assign.wpIn (Fence.wide.inRound l) (n - 1 - 1) Try.prog (Exit.then K (fun _ _ _ => False)) { tmps := (ps.zip #[.int .i64 x.1, .int .i64 x.2]).foldl (fun t (p, v) => t.setIfInBounds p v) a.tmps, defers := [] } W)
    (hbody : ∀ (l : Nat) (pre : List (Int × Int)) (x : Int × Int) (W : World), I pre W → pre ++ [x] <+: szL 63 W0 H0 → body.wpIn (Fence.wide.inRound l) (n - 1 - 1) Try.prog (RoundEnd w.heap.size gw gh I X (pre ++ [x]) W) (a₁ x) W)
    (hdone : ∀ (D : Nat) (W : World), w.heap.size ≤ D → I (szL 63 W0 H0) W → W.heap[D]? = some (.deferred (some [])) → Q .normal { a with defers := { target := .collected D, args := #[] } :: a.defers } W)
    (hstop : ∀ (D : Nat) (pre : List (Int × Int)) (W : World), w.heap.size ≤ D → pre <+: szL 63 W0 H0 → pre ≠ [] → X pre W → W.heap[D]? = some (.deferred (some [])) → Code.ret.wpIn Fence.wide n Try.prog Q { a with defers := { target := .collected D, args := #[] } :: a.defers } W) :
    (Code.rangeFunc g ps assign body).wpIn Fence.wide n Try.prog Q a w := by
  have gwl := hw.lt
  have ghl := hh.lt
  refine wpIn_rangeFunc fun fn hfn => ?_
  -- the loop's record, in its states
  let rc : LoopState → Option Code → Obj := fun st pe => .loop { state := st, pending := pe, fn, tmps := a.tmps, params := ps, assign, body, defers := w.heap.size }
  let U := (w.alloc (.deferred (some []))).alloc (rc .ready none)
  have up : w.grownBy U none := (World.grownBy_alloc w _ none).trans (World.grownBy_alloc _ _ none)
  have uL : U.heap[w.heap.size + 1]? = some (rc .ready none) := by
    have := World.alloc_heap_new (w.alloc (.deferred (some []))) (rc .ready none)
    rwa [World.size_alloc] at this
  have uD : U.heap[w.heap.size]? = some (.deferred (some [])) := (Below.heap_alloc _ _ _ (by simp)).trans (World.alloc_heap_new w _)
  refine ⟨w.heap.size + 1, [{ target := .collected w.heap.size, args := #[] }], U, { target := .fn (.func 61) #[.pointer (some ⟨gw, 0, none⟩), .pointer (some ⟨gh, 0, none⟩)], args := #[.func (.yield (w.heap.size + 1)) #[] #[]] }, U, 61,
    #[.func (.yield (w.heap.size + 1)) #[] #[], .pointer (some ⟨gw, 0, none⟩), .pointer (some ⟨gh, 0, none⟩)], U, run_enterLoop_outer _ _ _ _ _, ?_, fun _ _ => trivial, ?_, (fun h => (by cases h)), ?_⟩
  · simp only [resolve, hg]
    simp [go_sem]
  · have en := enters_of Try.func61 (by kernel_rfl) rfl
    simp [invoke, go_sem, en]
  -- a block that is turned from w.heap.size on turns nothing that I or X reads
  have turn : ∀ {J : List (Int × Int) → World → Prop}, Apart w.heap.size gw gh J → ∀ s (W : World) k (o : Obj), w.heap.size ≤ k → J s W → J s (W.putObj k o) := fun hJ s W k o hk hs => hJ s W _ (some k) hs (grownBy_putObj' W k o) fun r e => by cases e; exact .inl hk
  refine (sizes1_in Fence.wide (n - 1) trivial rfl (by omega) (w.heap.size + 1) gw gh hne
    (fun pre W => I pre W ∧ W.heap[w.heap.size + 1]? = some (rc .ready none) ∧ W.heap[w.heap.size]? = some (.deferred (some [])))
    (fun pre W => X pre W ∧ W.heap[w.heap.size + 1]? = some (rc .done (some .ret)) ∧ W.heap[w.heap.size]? = some (.deferred (some [])))
    ?hset ?hdr W0 H0 ?hY hW1 hW2 hH1 hH2 U ((up.block gw gwl (by simp)).trans hw) ((up.block gh ghl (by simp)).trans hh) ⟨hI [] w U none h0 up (fun r e => by cases e), uL, uD⟩).mono ?_
  case hset =>
    rintro pre W v p hp ⟨i, l, d⟩
    have hpl : p < w.heap.size := by rcases hp with rfl | rfl <;> assumption
    refine ⟨hI pre W _ (some p) i ⟨rfl, rfl, rfl, by simp, fun k _ hk => heap_setCell_other W ⟨p, 0, none⟩ k v fun e => hk (by rw [e])⟩ (fun r e => by cases e; exact .inr hp), ?_, ?_⟩
    · exact (heap_setCell_other W ⟨p, 0, none⟩ _ v (by show w.heap.size + 1 ≠ p; omega)).trans l
    · exact (heap_setCell_other W ⟨p, 0, none⟩ _ v (by show w.heap.size ≠ p; omega)).trans d
  case hdr =>
    rintro pre W ⟨i, l, d⟩
    exact ⟨hI pre W _ none i ⟨rfl, rfl, rfl, Nat.le_refl _, fun _ _ _ => rfl⟩ (fun r e => by cases e), l, d⟩
  case hY =>
    rintro pre x W ⟨i, l, d⟩ hpx
    have ll : w.heap.size + 1 < W.heap.size := (Array.getElem?_eq_some_iff.1 l).1
    refine ⟨fn, _, assign, body, run_yield l hps.symm, roundIn_of_wpIn hfn (hassign _ x W _ ⟨_, run_beginRound l rfl, ?_⟩)⟩
    have bl : (W.putObj (w.heap.size + 1) (rc .busy none)).heap[w.heap.size + 1]? = some (rc .busy none) := World.putObj_heap_same ll
    have bd : (W.putObj (w.heap.size + 1) (rc .busy none)).heap[w.heap.size]? = some (.deferred (some [])) := (World.putObj_heap_other (by omega)).trans d
    have bs : (W.putObj (w.heap.size + 1) (rc .busy none)).heap.size = W.heap.size := by simp
    refine wpIn_mono (hbody _ pre x _ (turn hI pre W _ _ (by omega) i) hpx) ?_
    intro e a3 W3 hp
    -- what the round leaves of the book-keeping, and how it ends
    have fin : ∀ (jump : Option Code), Leaves w.heap.size gw gh (W.putObj (w.heap.size + 1) (rc .busy none)) W3 →
        (Instr.endRound (w.heap.size + 1) jump).run Try.prog W3 = .ok (.bool jump.isNone) (W3.putObj (w.heap.size + 1) (rc (if jump.isNone then .ready else .done) jump)) ∧
        (W3.putObj (w.heap.size + 1) (rc (if jump.isNone then .ready else .done) jump)).heap[w.heap.size + 1]? = some (rc (if jump.isNone then .ready else .done) jump) ∧
        (W3.putObj (w.heap.size + 1) (rc (if jump.isNone then .ready else .done) jump)).heap[w.heap.size]? = some (.deferred (some [])) ∧
        (∀ k, k < w.heap.size → k = gw ∨ k = gh → (W3.putObj (w.heap.size + 1) (rc (if jump.isNone then .ready else .done) jump)).heap[k]? = W.heap[k]?) := fun jump hv => by
      have l3 := (hv.same (w.heap.size + 1) (by omega) (.inl (by omega))).trans bl
      have d3 := (hv.same w.heap.size (by omega) (.inl (Nat.le_refl _))).trans bd
      refine ⟨run_endRound jump l3, World.putObj_heap_same (Array.getElem?_eq_some_iff.1 l3).1, (World.putObj_heap_other (by omega)).trans d3, fun k hk hkk => ?_⟩
      exact (World.putObj_heap_other (by omega)).trans ((hv.same k (by omega) (.inr hkk)).trans (World.putObj_heap_other (by omega)))
    match e, hp with
    | .normal, ⟨hv, hi⟩ =>
      obtain ⟨r, l4, d4, k4⟩ := fin none hv
      exact ⟨_, _, r, .inl ⟨rfl, ⟨turn hI _ W3 _ _ (by omega) hi, l4, d4⟩, k4 gw gwl (.inl rfl), k4 gh ghl (.inr rfl)⟩⟩
    | .ret, ⟨hv, hi⟩ =>
      obtain ⟨r, l4, d4, _⟩ := fin (some .ret) hv
      exact ⟨_, _, r, .inr ⟨rfl, turn hX _ W3 _ _ (by omega) hi, l4, d4⟩⟩
  · rintro e W2 ⟨⟨v, rfl⟩, (⟨i, l, d⟩ | ⟨pre, hp, hne', i, l, d⟩)⟩
    · exact ⟨none, _, run_endLoop l (by simp), hdone _ _ (Nat.le_refl _) (turn hI _ W2 _ _ (by omega) i) ((World.putObj_heap_other (by omega)).trans d)⟩
    · exact ⟨some .ret, _, run_endLoop l (by simp), hstop _ pre _ (Nat.le_refl _) hp hne' (turn hX _ W2 _ _ (by omega) i) ((World.putObj_heap_other (by omega)).trans d)⟩
end Go.Proofs.Ytbpdaijmclcbdaa
