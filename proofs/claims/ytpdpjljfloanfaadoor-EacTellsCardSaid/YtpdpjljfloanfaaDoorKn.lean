/- What a walk knows of memory: blocks that it may write, each known whole; and facts that no write to these unsettles. Its laws on load, store, alloc, box and append find what they need by themselves. -/
import Derived.Test.YtpdpjljfloanfaaDoorTile
import Derived.Maps.AppendAt
import Derived.Great.BuildSlice
set_option linter.all false
namespace Go.Proofs.YtpdpjljfloanfaaDoor
open Go.RowKit

/-- A block that is just some values; a row that the call itself has made by append. -/
inductive Res
  | row (g : Nat) (t : TypeId) (vs : List Value)
  | own (e : TypeId) (size : Nat) (v : Value) (n : Nat) (xs : List Value)
def Res.block : Res → Option Nat
  | .row g _ _ => some g
  | .own _ _ v _ _ => v.ownBlock
def Res.holds (B : Nat) (u : World) : Res → Prop
  | .row g t vs => B ≤ g ∧ Row u g t vs
  | .own e size v n xs => u.ownsRow B e size v n xs

theorem Res.kept {r : Res} {B : Nat} {u u' : World} (h : r.holds B u) (hk : ∀ b, r.block = some b → u'.heap[b]? = u.heap[b]?) : r.holds B u' := by
  cases r with
  | row g t vs => exact ⟨h.1, (hk g rfl).trans h.2⟩
  | own e size v n xs =>
    refine ⟨h.1, ?_⟩
    rcases h.2 with h0 | ⟨g, cap, cur, rfl, hb, hh, hr⟩
    · exact .inl h0
    · exact .inr ⟨g, cap, cur, rfl, hb, (hk g rfl).trans hh, hr⟩
theorem Res.range {r : Res} {B : Nat} {u : World} (h : r.holds B u) {b : Nat} (hb : r.block = some b) : B ≤ b ∧ b < u.heap.size := by
  cases r with
  | row g t vs => cases hb; exact ⟨h.1, h.2.lt⟩
  | own e size v n xs =>
    rcases h.2 with ⟨rfl, _⟩ | ⟨g, cap, cur, rfl, hg, hh, _⟩
    · cases hb
    · cases hb; exact ⟨hg, (Array.getElem?_eq_some_iff.1 hh).1⟩

def blocks (R : List Res) : List Nat := R.filterMap Res.block
theorem mem_blocks {R : List Res} {b : Nat} : b ∈ blocks R ↔ ∃ r ∈ R, r.block = some b := by simp [blocks]

/-- From u to u' nothing has changed but new blocks and those of B. -/
structure Keep (B : List Nat) (u u' : World) : Prop where
  os : u'.os = u.os
  tape : u'.tape = u.tape
  output : u'.output = u.output
  size : u.heap.size ≤ u'.heap.size
  block : ∀ k, k < u.heap.size → k ∉ B → u'.heap[k]? = u.heap[k]?
theorem Keep.refl (B : List Nat) (u : World) : Keep B u u := ⟨rfl, rfl, rfl, Nat.le_refl _, fun _ _ _ => rfl⟩
theorem Keep.trans {B : List Nat} {a b c : World} (h : Keep B a b) (k : Keep B b c) : Keep B a c :=
  ⟨k.os.trans h.os, k.tape.trans h.tape, k.output.trans h.output, Nat.le_trans h.size k.size, fun i hi hB => (k.block i (Nat.lt_of_lt_of_le hi h.size) hB).trans (h.block i hi hB)⟩
theorem Keep.of_below {B : List Nat} {u u' : World} (h : Below u.heap.size u u') : Keep B u u' := ⟨h.os, h.tape, h.output, h.size, fun k hk _ => h.block k hk⟩

structure Kn (w : World) (R : List Res) (F : List (World → Prop)) (u : World) : Prop where
  res : ∀ r ∈ R, r.holds w.heap.size u
  apart : (blocks R).Nodup
  facts : ∀ f ∈ F, ∀ u', Keep (blocks R) u u' → f u'
  bel : Below w.heap.size w u

section
variable {w u u' : World} {R : List Res} {F : List (World → Prop)}
theorem Kn.start (w : World) : Kn w [] [] w := ⟨by simp, by simp [blocks], by simp, Below.refl _ _⟩
theorem Kn.later (h : Kn w R F u) (hb : Below u.heap.size u u') : Kn w R F u' :=
  ⟨fun r hr => Res.kept (h.res r hr) fun b e => hb.block b (Res.range (h.res r hr) e).2, h.apart, fun f hf u'' hk => h.facts f hf u'' ((Keep.of_below hb).trans hk), h.bel.trans (hb.mono h.bel.size)⟩
theorem Kn.drew (h : Kn w R F u) : Kn w R F u.drew := h.later ⟨rfl, rfl, rfl, Nat.le_refl _, fun _ _ => rfl⟩
theorem Kn.undrew (h : Kn w R F u.drew) : Kn w R F u := ⟨fun r hr => Res.kept (h.res r hr) fun _ _ => rfl, h.apart, fun f hf u'' hk => h.facts f hf u'' ⟨hk.os, hk.tape, hk.output, hk.size, hk.block⟩, ⟨h.bel.os, h.bel.tape, h.bel.output, h.bel.size, h.bel.block⟩⟩
theorem Kn.drewN (h : Kn w R F u) (k : Nat) : Kn w R F (u.drewN k) := h.later ⟨rfl, rfl, rfl, Nat.le_refl _, fun _ _ => rfl⟩
theorem Kn.get (h : Kn w R F u) {f : World → Prop} (hf : f ∈ F) : f u := h.facts f hf u (Keep.refl _ _)
/-- A new resource in a new block (or in none). -/
theorem Kn.add (h : Kn w R F u) (hb : Below u.heap.size u u') {r : Res} (hr : r.holds w.heap.size u') (hf : ∀ b, r.block = some b → u.heap.size ≤ b) : Kn w (r :: R) F u' := by
  have h' := h.later hb
  refine ⟨fun s hs => ?_, ?_, fun f hff u'' hk => ?_, h'.bel⟩
  · rcases List.mem_cons.1 hs with rfl | hs
    · exact hr
    · exact h'.res s hs
  · unfold blocks
    rw [List.filterMap_cons]
    split
    · exact h.apart
    · rename_i b e
      refine List.nodup_cons.2 ⟨fun hm => ?_, h.apart⟩
      obtain ⟨s, hs, e'⟩ := mem_blocks.1 hm
      have h1 := (Res.range (h.res s hs) e').2
      have h2 := hf b e
      omega
  · refine h.facts f hff u'' ?_
    refine ⟨hk.os.trans hb.os, hk.tape.trans hb.tape, hk.output.trans hb.output, Nat.le_trans hb.size hk.size, fun k hk1 hk2 => (hk.block k (Nat.lt_of_lt_of_le hk1 hb.size) fun hm => ?_).trans (hb.block k hk1)⟩
    obtain ⟨s, hs, e⟩ := mem_blocks.1 hm
    rcases List.mem_cons.1 hs with rfl | hs
    · have := hf k e; omega
    · exact hk2 (mem_blocks.2 ⟨s, hs, e⟩)
theorem blocks_split (R1 R2 : List Res) (r : Res) : blocks (R1 ++ r :: R2) = blocks R1 ++ (r.block.toList ++ blocks R2) := by
  simp only [blocks, List.filterMap_append, List.filterMap_cons]
  cases r.block <;> rfl
/-- A resource has turned into another, in its own block or in a new one. -/
theorem Kn.turn {R1 R2 : List Res} {r r' : Res} (h : Kn w (R1 ++ r :: R2) F u) (hg : u.grownBy u' r.block) (hr : r'.holds w.heap.size u') (hf : r'.block = r.block ∨ (∀ b, r'.block = some b → u.heap.size ≤ b)) : Kn w (R1 ++ r' :: R2) F u' := by
  have hrm : r ∈ R1 ++ r :: R2 := by simp
  have hB : ∀ b, b ∈ blocks (R1 ++ r' :: R2) → b < u.heap.size → b ∈ blocks (R1 ++ r :: R2) := by
    intro b hb hlt
    rw [blocks_split] at hb ⊢
    simp only [List.mem_append, Option.mem_toList] at hb ⊢
    rcases hb with hb | hb | hb
    · exact .inl hb
    · rcases hf with e | e
      · exact .inr (.inl (e ▸ hb))
      · have := e b hb; omega
    · exact .inr (.inr hb)
  have hap := h.apart
  rw [blocks_split] at hap
  have hne : ∀ s, s ∈ R1 ∨ s ∈ R2 → ∀ b, s.block = some b → some b ≠ r.block := by
    intro s hs b e e'
    have hap' := hap
    rw [← e'] at hap'
    simp only [Option.toList_some, List.singleton_append] at hap'
    have h2 := List.nodup_append.1 hap'
    rcases hs with hs | hs
    · exact h2.2.2 b (mem_blocks.2 ⟨s, hs, e⟩) b (by simp) rfl
    · exact (List.nodup_cons.1 h2.2.1).1 (mem_blocks.2 ⟨s, hs, e⟩)
  refine ⟨fun s hs => ?_, ?_, fun f hff u'' hk => ?_, ?_⟩
  · simp only [List.mem_append, List.mem_cons] at hs
    have key : ∀ s, s ∈ R1 ∨ s ∈ R2 → s.holds w.heap.size u' := fun s hs => by
      have hh : s.holds w.heap.size u := h.res s (by simp; rcases hs with h | h <;> simp [h])
      exact Res.kept hh fun b e => hg.block b (Res.range hh e).2 (hne s hs b e)
    rcases hs with hs | rfl | hs
    · exact key s (.inl hs)
    · exact hr
    · exact key s (.inr hs)
  · rw [blocks_split]
    rcases hf with e | e
    · rw [e]; exact hap
    · cases hbk : r'.block with
      | none =>
        simp only [Option.toList_none, List.nil_append]
        have h2 := List.nodup_append.1 hap
        exact List.nodup_append.2 ⟨h2.1, (List.nodup_append.1 h2.2.1).2.1, fun x hx y hy => h2.2.2 x hx y (by simp [hy])⟩
      | some b =>
        have hb := e b hbk
        have hlt : ∀ s, s ∈ R1 ∨ s ∈ R2 → ∀ c, s.block = some c → c < u.heap.size := fun s hs c hc => (Res.range (h.res s (by simp; rcases hs with h | h <;> simp [h])) hc).2
        have h2 := List.nodup_append.1 hap
        simp only [Option.toList_some, List.singleton_append]
        refine List.nodup_append.2 ⟨h2.1, List.nodup_cons.2 ⟨fun hm => ?_, (List.nodup_append.1 h2.2.1).2.1⟩, fun x hx y hy => ?_⟩
        · obtain ⟨s, hs, e'⟩ := mem_blocks.1 hm
          have := hlt s (.inr hs) b e'; omega
        · rcases List.mem_cons.1 hy with rfl | hy
          · obtain ⟨s, hs, e'⟩ := mem_blocks.1 hx
            have := hlt s (.inl hs) x e'; omega
          · exact h2.2.2 x hx y (by simp [hy])
  · refine h.facts f hff u'' ⟨hk.os.trans hg.os, hk.tape.trans hg.tape, hk.output.trans hg.output, Nat.le_trans hg.size hk.size, fun k hk1 hk2 => ?_⟩
    refine (hk.block k (Nat.lt_of_lt_of_le hk1 hg.size) fun hm => hk2 (hB k hm hk1)).trans (hg.block k hk1 fun e => hk2 (mem_blocks.2 ⟨r, hrm, e.symm⟩))
  · exact h.bel.grown hg h.bel.size fun k e => (Res.range (h.res r hrm) e).1
/-- A fact more. -/
theorem Kn.fact (h : Kn w R F u) {f : World → Prop} (hf : ∀ u', Keep (blocks R) u u' → f u') : Kn w R (f :: F) u :=
  ⟨h.res, h.apart, fun g hg => (List.mem_cons.1 hg).elim (fun e => e ▸ hf) (h.facts g), h.bel⟩
/-- Less is known. -/
theorem Kn.part (h : Kn w R F u) (R' : List Res) (F' : List (World → Prop)) (hR : R'.Sublist R) (hF : ∀ f ∈ F', f ∈ F) : Kn w R' F' u := by
  have hs : (blocks R').Sublist (blocks R) := hR.filterMap _
  exact ⟨fun r hr => h.res r (hR.subset hr), hs.nodup h.apart, fun f hf u' hk => h.facts f (hF f hf) u' ⟨hk.os, hk.tape, hk.output, hk.size, fun k h1 h2 => hk.block k h1 fun hm => h2 (hs.subset hm)⟩, h.bel⟩
end

/-- A block known whole, as a fact. -/
def rowF (g : Nat) (t : TypeId) (vs : List Value) : World → Prop := fun u => Row u g t vs
def rsF (A : Option Addr) (n : Nat) (vs : List Value) : World → Prop := fun u => Rs u u.heap.size A n vs
def bsF (A : Option Addr) (n : Nat) (xs : List Nat) : World → Prop := fun u => Bs u u.heap.size A n xs

class HasRow (R : List Res) (g : Nat) (t : outParam TypeId) (vs : outParam (List Value)) : Prop where
  h : Res.row g t vs ∈ R
instance {R : List Res} {r : Res} {g : Nat} {t : TypeId} {vs : List Value} [H : HasRow R g t vs] : HasRow (r :: R) g t vs := ⟨List.mem_cons_of_mem _ H.h⟩
instance {R : List Res} {g : Nat} {t : TypeId} {vs : List Value} : HasRow (.row g t vs :: R) g t vs := ⟨List.mem_cons_self⟩
class HasRowF (F : List (World → Prop)) (g : Nat) (t : outParam TypeId) (vs : outParam (List Value)) : Prop where
  h : rowF g t vs ∈ F
instance {F : List (World → Prop)} {f : World → Prop} {g : Nat} {t : TypeId} {vs : List Value} [H : HasRowF F g t vs] : HasRowF (f :: F) g t vs := ⟨List.mem_cons_of_mem _ H.h⟩
instance {F : List (World → Prop)} {g : Nat} {t : TypeId} {vs : List Value} : HasRowF (rowF g t vs :: F) g t vs := ⟨List.mem_cons_self⟩
class Sees (R : List Res) (F : List (World → Prop)) (g : Nat) (t : outParam TypeId) (vs : outParam (List Value)) : Prop where
  h : ∀ {w u : World}, Kn w R F u → Row u g t vs
instance {R : List Res} {F : List (World → Prop)} {g : Nat} {t : TypeId} {vs : List Value} [H : HasRowF F g t vs] : Sees R F g t vs := ⟨fun E => E.get H.h⟩
instance {R : List Res} {F : List (World → Prop)} {g : Nat} {t : TypeId} {vs : List Value} [H : HasRow R g t vs] : Sees R F g t vs := ⟨fun E => (E.res _ H.h).2⟩
class HasOwn (R : List Res) (v : Value) (e : outParam TypeId) (size : outParam Nat) (n : outParam Nat) (xs : outParam (List Value)) : Prop where
  h : Res.own e size v n xs ∈ R
instance {R : List Res} {r : Res} {v : Value} {e : TypeId} {size n : Nat} {xs : List Value} [H : HasOwn R v e size n xs] : HasOwn (r :: R) v e size n xs := ⟨List.mem_cons_of_mem _ H.h⟩
instance {R : List Res} {v : Value} {e : TypeId} {size n : Nat} {xs : List Value} : HasOwn (.own e size v n xs :: R) v e size n xs := ⟨List.mem_cons_self⟩
class HasOwnAny (R : List Res) (v : outParam Value) (e : outParam TypeId) (size : outParam Nat) (n : outParam Nat) (xs : outParam (List Value)) : Prop where
  h : Res.own e size v n xs ∈ R
instance {R : List Res} {r : Res} {v : Value} {e : TypeId} {size n : Nat} {xs : List Value} [H : HasOwnAny R v e size n xs] : HasOwnAny (r :: R) v e size n xs := ⟨List.mem_cons_of_mem _ H.h⟩
instance {R : List Res} {v : Value} {e : TypeId} {size n : Nat} {xs : List Value} : HasOwnAny (.own e size v n xs :: R) v e size n xs := ⟨List.mem_cons_self⟩
/-- R' is R with r' in r's place. -/
class Turn (R : List Res) (r r' : Res) (R' : outParam (List Res)) : Prop where
  h : ∃ R1 R2, R = R1 ++ r :: R2 ∧ R' = R1 ++ r' :: R2
instance {R R' : List Res} {s r r' : Res} [H : Turn R r r' R'] : Turn (s :: R) r r' (s :: R') := ⟨by obtain ⟨R1, R2, h1, h2⟩ := H.h; exact ⟨s :: R1, R2, by rw [h1]; rfl, by rw [h2]; rfl⟩⟩
instance {R : List Res} {r r' : Res} : Turn (r :: R) r r' (r' :: R) := ⟨[], R, rfl, rfl⟩
theorem Kn.turned {w u u' : World} {R R' : List Res} {F : List (World → Prop)} {r r' : Res} (h : Kn w R F u) [T : Turn R r r' R'] (hg : u.grownBy u' r.block) (hr : r'.holds w.heap.size u') (hf : r'.block = r.block ∨ (∀ b, r'.block = some b → u.heap.size ≤ b)) : Kn w R' F u' := by
  obtain ⟨R1, R2, rfl, rfl⟩ := T.h
  exact h.turn hg hr hf

/-- R' is R without r. -/
class Pull (R : List Res) (r : Res) (R' : outParam (List Res)) : Prop where
  h : ∃ R1 R2, R = R1 ++ r :: R2 ∧ R' = R1 ++ R2
instance {R R' : List Res} {s r : Res} [H : Pull R r R'] : Pull (s :: R) r (s :: R') := ⟨by obtain ⟨R1, R2, h1, h2⟩ := H.h; exact ⟨s :: R1, R2, by rw [h1]; rfl, by rw [h2]; rfl⟩⟩
instance {R : List Res} {r : Res} : Pull (r :: R) r R := ⟨[], R, rfl, rfl⟩
theorem Kn.perm {w u : World} {R R' : List Res} {F : List (World → Prop)} (h : Kn w R F u) (hp : R.Perm R') : Kn w R' F u := by
  have hb : (blocks R).Perm (blocks R') := hp.filterMap _
  exact ⟨fun r hr => h.res r (hp.mem_iff.2 hr), (hb.nodup_iff).1 h.apart, fun f hf u' hk => h.facts f hf u' ⟨hk.os, hk.tape, hk.output, hk.size, fun k h1 h2 => hk.block k h1 fun hm => h2 (hb.mem_iff.2 hm)⟩, h.bel⟩
/-- A block that is not written any more, as a fact. -/
theorem Kn.rest {w u : World} {R R' : List Res} {F : List (World → Prop)} (h : Kn w R F u) (g : Nat) {t : TypeId} {vs : List Value} [H : HasRow R g t vs] [P : Pull R (.row g t vs) R'] : Kn w R' (rowF g t vs :: F) u := by
  obtain ⟨R1, R2, rfl, rfl⟩ := P.h
  have h2 := h.perm List.perm_middle
  have hap := h2.apart
  have hg : g ∉ blocks (R1 ++ R2) := (List.nodup_cons.1 (show (g :: blocks (R1 ++ R2)).Nodup from hap)).1
  have hr := (h2.res (.row g t vs) (by simp))
  exact (h2.part (R1 ++ R2) F (List.sublist_cons_self _ _) fun _ h => h).fact fun u' hk => (hk.block g hr.2.lt hg).trans hr.2

theorem Kn.rest1 {w u : World} {F : List (World → Prop)} {g : Nat} {t : TypeId} {vs : List Value} (h : Kn w [.row g t vs] F u) : Kn w [] (rowF g t vs :: F) u := h.rest g

theorem Kn.row {w u : World} {R : List Res} {F : List (World → Prop)} (E : Kn w R F u) {g : Nat} {t : TypeId} {vs : List Value} [S : Sees R F g t vs] : Row u g t vs := S.h E
theorem Kn.cell {w u : World} {R : List Res} {F : List (World → Prop)} (E : Kn w R F u) (g i : Nat) {t : TypeId} {vs : List Value} [S : Sees R F g t vs] {v : Value} (hv : vs[i]? = some v) : u.cell? ⟨g, i, none⟩ = some v := (S.h E).cell i v hv
theorem Kn.own {w u : World} {R : List Res} {F : List (World → Prop)} (E : Kn w R F u) {v : Value} {e : TypeId} {size n : Nat} {xs : List Value} [H : HasOwn R v e size n xs] : u.ownsRow w.heap.size e size v n xs := E.res _ H.h
/-- A block is new, whatever it holds. -/
theorem Kn.new {w u : World} {R : List Res} {F : List (World → Prop)} (E : Kn w R F u) (t : TypeId) (vs : List Value) : Kn w (.row u.heap.size t vs :: R) F (u.alloc (.cells vs.toArray t)) :=
  E.add ((Below.refl u.heap.size u).alloc (Nat.le_refl _) _) ⟨E.bel.size, Row.new u t vs⟩ fun _ e => by cases e; exact Nat.le_refl _
theorem Kn.own_nil {w u : World} {R : List Res} {F : List (World → Prop)} (E : Kn w R F u) (e : TypeId) (size : Nat) : Kn w (.own e size (.slice none 0 0) 0 [] :: R) F u :=
  E.add (Below.refl _ _) (r := .own e size (.slice none 0 0) 0 []) ⟨by simp, .inl ⟨rfl, rfl⟩⟩ fun _ e => by cases e

theorem Below.box' (w : World) (o : Obj) : Below w.heap.size w (w.alloc o) := (Below.refl w.heap.size w).alloc (Nat.le_refl _) o
theorem grown_set' (w : World) (a : Addr) (u : Value) : w.grownBy (w.setCell a u) (some a.block) :=
  ⟨rfl, rfl, rfl, by simp, fun k _ hk => heap_setCell_other w a k u (fun e => hk (by rw [e]))⟩

/-! Types: one cell, or several; the zero value. -/
class Scal (ty : TypeId) : Prop where
  desc : ∃ d, Tryd.prog.underlying ty = some d ∧ d.isRow = false
  size : (Tryd.prog.info? ty).map (·.size) = some 1
class Aggr (ty : TypeId) (m : outParam Nat) : Prop where
  desc : ∃ d, Tryd.prog.underlying ty = some d ∧ d.isRow = true
  size : (Tryd.prog.info? ty).map (·.size) = some m
class ZeroV (ty : TypeId) (vs : outParam (List Value)) : Prop where
  h : ∃ i z, Tryd.prog.info? ty = some i ∧ i.zero = some z ∧ z.cells = vs.toArray
theorem ZeroV.of {ty : TypeId} {vs : List Value} (h : ((Tryd.prog.info? ty).bind (·.zero)).map (·.cells) = some vs.toArray) : ZeroV ty vs := by
  cases hq : Tryd.prog.info? ty with
  | none => simp [hq] at h
  | some i =>
    cases hz : i.zero with
    | none => simp [hq, hz] at h
    | some z => simp [hq, hz] at h; exact ⟨i, z, hq, hz, h⟩

section
variable {w u : World} {R R' : List Res} {F : List (World → Prop)} {ops : Array Oper} {rest : List Oper} {o : Oper} {a : Act} {Q : Exit → Act → World → Prop} {K : Act → World → Prop}
theorem run_isAgg_no {ty : TypeId} [S : Scal ty] (w : World) : (isAgg ty).run Tryd.prog w = .ok false w := by
  obtain ⟨d, hu, hd⟩ := S.desc
  unfold isAgg
  rw [Sem.run_bind, run_underlying hu w]
  cases d <;> simp_all [TypeDesc.isRow]
theorem wp_kn_load (E : Kn w R F u) {ty : TypeId} {x : Operand} (ho : o.op = .load ty x) {g i : Nat} (hx : a.eval x = .pointer (some ⟨g, i, none⟩)) {t : TypeId} {vs : List Value} [Sees R F g t vs] [Scal ty] {v : Value} (hv : vs[i]? = some v)
    (h : K (a.put o.dst v) u) : o.wp Tryd.prog a u K Q := by
  have hc := E.cell g i hv
  unfold Oper.wp execOp
  simp only [ho, hx, Instr.loadAt, Instr.sureAddr, loadVar, Sem.run_bind, Sem.run_pure, Result.andThen_ok, run_isAgg_no, Bool.false_eq_true, if_false, run_load, hc]
  exact h
theorem kn_load (E : Kn w R F u) (hgd : o.guard = none) {ty : TypeId} {x : Operand} (ho : o.op = .load ty x) {g i : Nat} (hx : a.eval x = .pointer (some ⟨g, i, none⟩)) {t : TypeId} {vs : List Value} [Sees R F g t vs] [Scal ty] {v : Value} (hv : vs[i]? = some v)
    (h : wpList Tryd.prog ops Q rest (a.put o.dst v) u) : wpList Tryd.prog ops Q (o :: rest) a u :=
  wpList_plain hgd fun _ hK => wp_kn_load E ho hx hv (hK _ _ h)
theorem kn_load_if (E : Kn w R F u) (hw : Region.wanted o (yielded ops a.tmps) = true) {ty : TypeId} {x : Operand} (ho : o.op = .load ty x) {g i : Nat} (hx : a.eval x = .pointer (some ⟨g, i, none⟩)) {t : TypeId} {vs : List Value} [Sees R F g t vs] [Scal ty] {v : Value} (hv : vs[i]? = some v)
    (h : wpList Tryd.prog ops Q rest (a.put o.dst v) u) : wpList Tryd.prog ops Q (o :: rest) a u :=
  wpList_wanted hw fun _ hK => wp_kn_load E ho hx hv (hK _ _ h)

/-- A number of an array of numbers; a byte of an array of bytes. -/
theorem kn_loadi (E : Kn w R F u) (hgd : o.guard = none) {ty : TypeId} {x : Operand} (ho : o.op = .load ty x) {g i : Nat} (hx : a.eval x = .pointer (some ⟨g, i, none⟩)) {t : TypeId} {zs : List Int} [Sees R F g t (i64s zs)] [Scal ty] (hi : i < zs.length)
    (h : wpList Tryd.prog ops Q rest (a.put o.dst (.int .i64 (zs.getD i 0))) u) : wpList Tryd.prog ops Q (o :: rest) a u := kn_load E hgd ho hx (i64s_get zs i hi) h
theorem kn_loadu (E : Kn w R F u) (hgd : o.guard = none) {ty : TypeId} {x : Operand} (ho : o.op = .load ty x) {g i : Nat} (hx : a.eval x = .pointer (some ⟨g, i, none⟩)) {t : TypeId} {zs : List Nat} [Sees R F g t (u8s zs)] [Scal ty] (hi : i < zs.length)
    (h : wpList Tryd.prog ops Q rest (a.put o.dst (.int .u8 ((zs.getD i 0 : Nat) : Int))) u) : wpList Tryd.prog ops Q (o :: rest) a u := kn_load E hgd ho hx (u8s_getElem? zs i hi) h
theorem wp_kn_loads (E : Kn w R F u) {ty : TypeId} {x : Operand} (ho : o.op = .load ty x) {g : Nat} (hx : a.eval x = .pointer (some ⟨g, 0, none⟩)) {t : TypeId} {vs : List Value} {m : Nat} [Sees R F g t vs] [A : Aggr ty m] (hl : vs.length = m)
    (h : K (a.put o.dst (.agg vs.toArray)) u) : o.wp Tryd.prog a u K Q := by
  obtain ⟨d, hu, hd⟩ := A.desc
  refine wp_load_row ty x ho g hx t vs.toArray (0, 0) d E.row hu (by cases d <;> simp_all [TypeDesc.isRow]) (by rw [A.size, ← hl]; simp) h
theorem kn_loads (E : Kn w R F u) (hgd : o.guard = none) {ty : TypeId} {x : Operand} (ho : o.op = .load ty x) {g : Nat} (hx : a.eval x = .pointer (some ⟨g, 0, none⟩)) {t : TypeId} {vs : List Value} {m : Nat} [Sees R F g t vs] [Aggr ty m] (hl : vs.length = m)
    (h : wpList Tryd.prog ops Q rest (a.put o.dst (.agg vs.toArray)) u) : wpList Tryd.prog ops Q (o :: rest) a u :=
  wpList_plain hgd fun _ hK => wp_kn_loads E ho hx hl (hK _ _ h)
theorem kn_loads_if (E : Kn w R F u) (hw : Region.wanted o (yielded ops a.tmps) = true) {ty : TypeId} {x : Operand} (ho : o.op = .load ty x) {g : Nat} (hx : a.eval x = .pointer (some ⟨g, 0, none⟩)) {t : TypeId} {vs : List Value} {m : Nat} [Sees R F g t vs] [Aggr ty m] (hl : vs.length = m)
    (h : wpList Tryd.prog ops Q rest (a.put o.dst (.agg vs.toArray)) u) : wpList Tryd.prog ops Q (o :: rest) a u :=
  wpList_wanted hw fun _ hK => wp_kn_loads E ho hx hl (hK _ _ h)
/-- A part of numbers. -/
theorem wp_kn_loadp (E : Kn w R F u) {ty : TypeId} {x : Operand} (ho : o.op = .load ty x) {g off : Nat} (hx : a.eval x = .pointer (some ⟨g, off, none⟩)) {t : TypeId} {zs : List Int} {m : Nat} [Sees R F g t (i64s zs)] [A : Aggr ty m] (hl : off + m ≤ zs.length)
    (h : K (a.put o.dst (arr ((zs.drop off).take m))) u) : o.wp Tryd.prog a u K Q := by
  obtain ⟨d, hu, hd⟩ := A.desc
  have hr : Row u g t (i64s zs) := E.row
  exact wp_load_mid ty x ho g off hx _ d (hr.range off m) hu hd (by rw [A.size, i64s_length, List.length_take, List.length_drop, Nat.min_eq_left (by omega)]) h
theorem kn_loadp (E : Kn w R F u) (hgd : o.guard = none) {ty : TypeId} {x : Operand} (ho : o.op = .load ty x) {g off : Nat} (hx : a.eval x = .pointer (some ⟨g, off, none⟩)) {t : TypeId} {zs : List Int} {m : Nat} [Sees R F g t (i64s zs)] [Aggr ty m] (hl : off + m ≤ zs.length)
    (h : wpList Tryd.prog ops Q rest (a.put o.dst (arr ((zs.drop off).take m))) u) : wpList Tryd.prog ops Q (o :: rest) a u :=
  wpList_plain hgd fun _ hK => wp_kn_loadp E ho hx hl (hK _ _ h)
theorem kn_loadp_if (E : Kn w R F u) (hw : Region.wanted o (yielded ops a.tmps) = true) {ty : TypeId} {x : Operand} (ho : o.op = .load ty x) {g off : Nat} (hx : a.eval x = .pointer (some ⟨g, off, none⟩)) {t : TypeId} {zs : List Int} {m : Nat} [Sees R F g t (i64s zs)] [Aggr ty m] (hl : off + m ≤ zs.length)
    (h : wpList Tryd.prog ops Q rest (a.put o.dst (arr ((zs.drop off).take m))) u) : wpList Tryd.prog ops Q (o :: rest) a u :=
  wpList_wanted hw fun _ hK => wp_kn_loadp E ho hx hl (hK _ _ h)

theorem kn_alloc (E : Kn w R F u) (hgd : o.guard = none) {ty : TypeId} (ho : o.op = .alloc ty) {zs : List Value} [Z : ZeroV ty zs]
    (h : ∀ g u', Kn w (.row g ty zs :: R) F u' → Below u.heap.size u u' → wpList Tryd.prog ops Q rest (a.put o.dst (.pointer (some ⟨g, 0, none⟩))) u') : wpList Tryd.prog ops Q (o :: rest) a u := by
  obtain ⟨i, z, hi, hz, hc⟩ := Z.h
  refine wpList_plain hgd fun _ hK => ?_
  unfold Oper.wp execOp
  simp only [ho, Instr.alloc, zeroValue, typeInfo, Sem.run_bind, Sem.run_pure, Result.andThen_ok, run_program, hi, hz, newVar, newRow, run_newObj, hc]
  exact hK _ _ (h _ _ (E.new ty zs) (Below.box' u _))
theorem kn_box (E : Kn w R F u) (hgd : o.guard = none) {ty : TypeId} {x : Operand} (ho : o.op = .box ty x) {vs : List Value} (hx : a.eval x = .agg vs.toArray)
    (h : ∀ g u', Kn w (.row g ty vs :: R) F u' → Below u.heap.size u u' → wpList Tryd.prog ops Q rest (a.put o.dst (.pointer (some ⟨g, 0, none⟩))) u') : wpList Tryd.prog ops Q (o :: rest) a u := by
  refine wpList_plain hgd fun _ hK => ?_
  unfold Oper.wp execOp
  simp only [ho, hx, Instr.box, Sem.run_bind, Sem.run_pure, Result.andThen_ok, newVar, newRow, run_newObj, Value.cells]
  exact hK _ _ (h _ _ (E.new ty vs) (Below.box' u _))
theorem kn_box1 (E : Kn w R F u) (hgd : o.guard = none) {ty : TypeId} {x : Operand} (ho : o.op = .box ty x) {v : Value} (hx : a.eval x = v) (h1 : v.oneCell' = true)
    (h : ∀ g u', Kn w (.row g ty [v] :: R) F u' → Below u.heap.size u u' → wpList Tryd.prog ops Q rest (a.put o.dst (.pointer (some ⟨g, 0, none⟩))) u') : wpList Tryd.prog ops Q (o :: rest) a u := by
  refine wpList_plain hgd fun _ hK => ?_
  have hc : v.cells = #[v] := by cases v <;> first | rfl | cases h1
  unfold Oper.wp execOp
  simp only [ho, hx, Instr.box, Sem.run_bind, Sem.run_pure, Result.andThen_ok, newVar, newRow, run_newObj, hc]
  exact hK _ _ (h _ _ (E.new ty [v]) (Below.box' u _))

theorem kn_box_int (E : Kn w R F u) (hgd : o.guard = none) {ty : TypeId} {x : Operand} (ho : o.op = .box ty x) {k : IntKind} {z : Int} (hx : a.eval x = .int k z)
    (h : ∀ g u', Kn w (.row g ty [.int k z] :: R) F u' → Below u.heap.size u u' → wpList Tryd.prog ops Q rest (a.put o.dst (.pointer (some ⟨g, 0, none⟩))) u') : wpList Tryd.prog ops Q (o :: rest) a u := kn_box1 E hgd ho hx rfl h
theorem kn_box_slice (E : Kn w R F u) (hgd : o.guard = none) {ty : TypeId} {x : Operand} (ho : o.op = .box ty x) {A : Option Addr} {m c : Nat} (hx : a.eval x = .slice A m c)
    (h : ∀ g u', Kn w (.row g ty [.slice A m c] :: R) F u' → Below u.heap.size u u' → wpList Tryd.prog ops Q rest (a.put o.dst (.pointer (some ⟨g, 0, none⟩))) u') : wpList Tryd.prog ops Q (o :: rest) a u := kn_box1 E hgd ho hx rfl h
theorem kn_box_bool (E : Kn w R F u) (hgd : o.guard = none) {ty : TypeId} {x : Operand} (ho : o.op = .box ty x) {b : Bool} (hx : a.eval x = .bool b)
    (h : ∀ g u', Kn w (.row g ty [.bool b] :: R) F u' → Below u.heap.size u u' → wpList Tryd.prog ops Q rest (a.put o.dst (.pointer (some ⟨g, 0, none⟩))) u') : wpList Tryd.prog ops Q (o :: rest) a u := kn_box1 E hgd ho hx rfl h
theorem kn_box_func (E : Kn w R F u) (hgd : o.guard = none) {ty : TypeId} {x : Operand} (ho : o.op = .box ty x) {f : Fn} {p q : Array Value} (hx : a.eval x = .func f p q)
    (h : ∀ g u', Kn w (.row g ty [.func f p q] :: R) F u' → Below u.heap.size u u' → wpList Tryd.prog ops Q rest (a.put o.dst (.pointer (some ⟨g, 0, none⟩))) u') : wpList Tryd.prog ops Q (o :: rest) a u := kn_box1 E hgd ho hx rfl h
/-- One value into a cell. -/
theorem kn_set (E : Kn w R F u) {g i : Nat} {t : TypeId} {vs : List Value} {v : Value} [H : HasRow R g t vs] [T : Turn R (.row g t vs) (.row g t (vs.set i v)) R'] : Kn w R' F (u.setCell ⟨g, i, none⟩ v) := by
  have hr := (E.res _ H.h)
  exact E.turned (r := .row g t vs) (r' := .row g t (vs.set i v)) (grown_set' u ⟨g, i, none⟩ v) ⟨hr.1, hr.2.set_ i v⟩ (.inl rfl)
theorem wp_kn_store (E : Kn w R F u) {ty : TypeId} {x y : Operand} (ho : o.op = .store ty x y) (hd : o.dst = none) {g i : Nat} (hx : a.eval x = .pointer (some ⟨g, i, none⟩)) {v : Value} (hy : a.eval y = v) (h1 : v.oneCell' = true) {t : TypeId} {vs : List Value} [H : HasRow R g t vs] [S : Scal ty] (hi : i < vs.length)
    [T : Turn R (.row g t vs) (.row g t (vs.set i v)) R'] (h : ∀ u', Kn w R' F u' → K a u') : o.wp Tryd.prog a u K Q := by
  have hr := (E.res _ H.h).2
  have hc : v.cells = #[v] := by cases v <;> first | rfl | cases h1
  have hcell := hr.cell i _ (List.getElem?_eq_getElem hi)
  have hfr := hr.frozen i
  have hk : (storeVar ty ⟨g, i, none⟩ v).run Tryd.prog u = .ok () (u.setCell ⟨g, i, none⟩ v) := by
    have hs := S.size
    cases hq : Tryd.prog.info? ty with
    | none => simp [hq] at hs
    | some inf =>
      have hz : inf.size = 1 := by simpa [hq] using hs
      simp [storeVar, sizeOf, typeInfo, hq, hc, hz, storeCells, run_store _ _ _ _ _ h1, show (⟨g, i, none⟩ : Addr).add 0 = ⟨g, i, none⟩ from by unfold Addr.add; split <;> simp_all, hcell, hfr]
  unfold Oper.wp execOp
  simp only [ho, hx, hy, Instr.storeAt, Instr.sureAddr, Sem.run_bind, Sem.run_pure, Result.andThen_ok, hk]
  show K (a.put o.dst undef) _
  rw [hd]
  exact h _ (kn_set E)
theorem kn_store (E : Kn w R F u) (hgd : o.guard = none) {ty : TypeId} {x y : Operand} (ho : o.op = .store ty x y) (hd : o.dst = none) {g i : Nat} (hx : a.eval x = .pointer (some ⟨g, i, none⟩)) {v : Value} (hy : a.eval y = v) (h1 : v.oneCell' = true) {t : TypeId} {vs : List Value} [H : HasRow R g t vs] [S : Scal ty] (hi : i < vs.length)
    [T : Turn R (.row g t vs) (.row g t (vs.set i v)) R'] (h : ∀ u', Kn w R' F u' → wpList Tryd.prog ops Q rest a u') : wpList Tryd.prog ops Q (o :: rest) a u :=
  wpList_plain hgd fun _ hK => wp_kn_store E ho hd hx hy h1 hi fun u' E' => hK _ _ (h u' E')
/-- A block of one cell. -/
theorem kn_store1 (E : Kn w R F u) (hgd : o.guard = none) {ty : TypeId} {x y : Operand} (ho : o.op = .store ty x y) (hd : o.dst = none) {g : Nat} (hx : a.eval x = .pointer (some ⟨g, 0, none⟩)) {v : Value} (hy : a.eval y = v) (h1 : v.oneCell' = true) {t : TypeId} {old : Value} [H : HasRow R g t [old]] [S : Scal ty]
    [T : Turn R (.row g t [old]) (.row g t [v]) R'] (h : ∀ u', Kn w R' F u' → wpList Tryd.prog ops Q rest a u') : wpList Tryd.prog ops Q (o :: rest) a u :=
  kn_store (i := 0) (T := T) E hgd ho hd hx hy h1 (by simp) h
theorem kn_store1_int (E : Kn w R F u) (hgd : o.guard = none) {ty : TypeId} {x y : Operand} (ho : o.op = .store ty x y) (hd : o.dst = none) {g : Nat} (hx : a.eval x = .pointer (some ⟨g, 0, none⟩)) {k : IntKind} {z : Int} (hy : a.eval y = .int k z) {t : TypeId} {old : Value} [H : HasRow R g t [old]] [S : Scal ty]
    [T : Turn R (.row g t [old]) (.row g t [.int k z]) R'] (h : ∀ u', Kn w R' F u' → wpList Tryd.prog ops Q rest a u') : wpList Tryd.prog ops Q (o :: rest) a u :=
  kn_store1 (T := T) E hgd ho hd hx hy rfl h
theorem kn_store1_slice (E : Kn w R F u) (hgd : o.guard = none) {ty : TypeId} {x y : Operand} (ho : o.op = .store ty x y) (hd : o.dst = none) {g : Nat} (hx : a.eval x = .pointer (some ⟨g, 0, none⟩)) {A : Option Addr} {m c : Nat} (hy : a.eval y = .slice A m c) {t : TypeId} {old : Value} [H : HasRow R g t [old]] [S : Scal ty]
    [T : Turn R (.row g t [old]) (.row g t [.slice A m c]) R'] (h : ∀ u', Kn w R' F u' → wpList Tryd.prog ops Q rest a u') : wpList Tryd.prog ops Q (o :: rest) a u :=
  kn_store1 (T := T) E hgd ho hd hx hy rfl h
theorem kn_store1_bool (E : Kn w R F u) (hgd : o.guard = none) {ty : TypeId} {x y : Operand} (ho : o.op = .store ty x y) (hd : o.dst = none) {g : Nat} (hx : a.eval x = .pointer (some ⟨g, 0, none⟩)) {b : Bool} (hy : a.eval y = .bool b) {t : TypeId} {old : Value} [H : HasRow R g t [old]] [S : Scal ty]
    [T : Turn R (.row g t [old]) (.row g t [.bool b]) R'] (h : ∀ u', Kn w R' F u' → wpList Tryd.prog ops Q rest a u') : wpList Tryd.prog ops Q (o :: rest) a u :=
  kn_store1 (T := T) E hgd ho hd hx hy rfl h
/-- A number into an array of numbers. -/
theorem kn_storei (E : Kn w R F u) (hgd : o.guard = none) {ty : TypeId} {x y : Operand} (ho : o.op = .store ty x y) (hd : o.dst = none) {g i : Nat} (hx : a.eval x = .pointer (some ⟨g, i, none⟩)) {z : Int} (hy : a.eval y = .int .i64 z) {t : TypeId} {zs : List Int} [H : HasRow R g t (i64s zs)] [S : Scal ty] (hi : i < zs.length)
    [T : Turn R (.row g t (i64s zs)) (.row g t (i64s (zs.set i z))) R'] (h : ∀ u', Kn w R' F u' → wpList Tryd.prog ops Q rest a u') : wpList Tryd.prog ops Q (o :: rest) a u := by
  have T' : Turn R (.row g t (i64s zs)) (.row g t ((i64s zs).set i (.int .i64 z))) R' := by rw [i64s_set]; exact T
  exact kn_store (T := T') E hgd ho hd hx hy rfl (by rw [i64s_length]; exact hi) h
/-- A byte into an array of bytes. -/
theorem kn_storeb (E : Kn w R F u) (hgd : o.guard = none) {ty : TypeId} {x y : Operand} (ho : o.op = .store ty x y) (hd : o.dst = none) {g i : Nat} (hx : a.eval x = .pointer (some ⟨g, i, none⟩)) {z : Nat} (hy : a.eval y = .int .u8 (z : Int)) {t : TypeId} {zs : List Nat} [H : HasRow R g t (u8s zs)] [S : Scal ty] (hi : i < zs.length)
    [T : Turn R (.row g t (u8s zs)) (.row g t (u8s (zs.set i z))) R'] (h : ∀ u', Kn w R' F u' → wpList Tryd.prog ops Q rest a u') : wpList Tryd.prog ops Q (o :: rest) a u := by
  have T' : Turn R (.row g t (u8s zs)) (.row g t ((u8s zs).set i (.int .u8 (z : Int)))) R' := by rw [u8s_set]; exact T
  exact kn_store (T := T') E hgd ho hd hx hy rfl (by rw [u8s_length]; exact hi) h
/-- A whole block. -/
theorem wp_kn_stores (E : Kn w R F u) {ty : TypeId} {x y : Operand} (ho : o.op = .store ty x y) (hd : o.dst = none) {g : Nat} (hx : a.eval x = .pointer (some ⟨g, 0, none⟩)) {vs : List Value} (hy : a.eval y = .agg vs.toArray) {t : TypeId} {old : List Value} [H : HasRow R g t old] {m : Nat} [A : Aggr ty m] (hl : old.length = m ∧ vs.length = m) (h1 : ∀ v ∈ vs, v.oneCell' = true)
    [T : Turn R (.row g t old) (.row g t vs) R'] (h : ∀ u', Kn w R' F u' → K a u') : o.wp Tryd.prog a u K Q := by
  have hr := (E.res _ H.h)
  refine wp_store_row ty x y ho g vs.toArray hx hy t old.toArray hr.2 (by rw [A.size, ← hl.2]; simp) (by simp [hl.1, hl.2]) (all_oneCell_toArray h1) ?_
  rw [hd]
  refine h _ (E.turned (r := .row g t old) (r' := .row g t vs) ?_ ⟨hr.1, ?_⟩ (.inl rfl))
  · have ho : ∀ k, k ≠ g → (u.setRow g vs.toArray).heap[k]? = u.heap[k]? := by
      intro k hk
      simp only [World.setRow, Array.getElem?_modify]
      rw [if_neg (by omega)]
    exact ⟨rfl, rfl, rfl, by rw [size_setRow]; exact Nat.le_refl _, fun k _ hk => ho k (fun e => hk (by rw [e]; rfl))⟩
  · have := hr.2
    unfold Row at this ⊢
    simp [World.setRow, Array.getElem?_modify, this]
theorem kn_stores (E : Kn w R F u) (hgd : o.guard = none) {ty : TypeId} {x y : Operand} (ho : o.op = .store ty x y) (hd : o.dst = none) {g : Nat} (hx : a.eval x = .pointer (some ⟨g, 0, none⟩)) {vs : List Value} (hy : a.eval y = .agg vs.toArray) {t : TypeId} {old : List Value} [H : HasRow R g t old] {m : Nat} [A : Aggr ty m] (hl : old.length = m ∧ vs.length = m) (h1 : ∀ v ∈ vs, v.oneCell' = true)
    [T : Turn R (.row g t old) (.row g t vs) R'] (h : ∀ u', Kn w R' F u' → wpList Tryd.prog ops Q rest a u') : wpList Tryd.prog ops Q (o :: rest) a u :=
  wpList_plain hgd fun _ hK => wp_kn_stores E ho hd hx hy hl h1 fun u' E' => hK _ _ (h u' E')
/-- Numbers into a part of an array of numbers. -/
theorem kn_storep (E : Kn w R F u) (hgd : o.guard = none) {ty : TypeId} {x y : Operand} (ho : o.op = .store ty x y) (hd : o.dst = none) {g off : Nat} (hx : a.eval x = .pointer (some ⟨g, off, none⟩)) {ys : List Int} (hy : a.eval y = arr ys) {t : TypeId} {zs : List Int} [H : HasRow R g t (i64s zs)] {m : Nat} [A : Aggr ty m] (hl : ys.length = m) (hm : off + m ≤ zs.length)
    [T : Turn R (.row g t (i64s zs)) (.row g t (i64s (spl zs off ys))) R'] (h : ∀ u', Kn w R' F u' → wpList Tryd.prog ops Q rest a u') : wpList Tryd.prog ops Q (o :: rest) a u := by
  have hr := (E.res _ H.h)
  refine wpList_store_part hgd ty x y ho hd g off hx ys hy t zs hr.2 (by rw [A.size, hl]) (by omega) fun u' ht => h u' ?_
  refine E.turned (r := .row g t (i64s zs)) (r' := .row g t (i64s (spl zs off ys))) ?_ ⟨hr.1, ht.row⟩ (.inl rfl)
  have hb := ht.below 0 u (Nat.zero_le _) (Below.refl 0 u)
  exact ⟨hb.os, hb.tape, hb.output, Nat.le_of_eq ht.size.symm, fun k _ hk => ht.other k fun e => hk (by rw [e]; rfl)⟩

/-- 'append' onto a row that the call has made: what is appended reads as ys. -/
theorem kn_append (E : Kn w R F u) (hgd : o.guard = none) {s x : Operand} {t : TypeId} (ho : o.op = .call { callee := .builtin .append, args := #[s, x], argTypes := #[t, t] })
    {v : Value} (hs : a.eval s = v) {e : TypeId} {size n : Nat} {xs : List Value} [H : HasOwnAny R v e size n xs] [P : Pull R (.own e size v n xs) R'] (ht : Tryd.prog.underlying t = some (.slice e))
    {z : Value} {bytes : Nat} (hinfo : (Tryd.prog.info? e).map (fun i => (i.zero, i.size, i.bytes)) = some (some z, size, bytes)) (hzc : z.cells.size = size) (hsz : 0 < size)
    {ad : Addr} {m c : Nat} (hx : a.eval x = .slice (some ad) m c) {ys : List Value} (hl : ys.length = m * size) (hys : ∀ j y, ys[j]? = some y → u.cell? (ad.add j) = some y) (h1 : ∀ y ∈ ys, y.oneCell' = true)
    (hn : n + m ≤ maxLen) (hb : (n + m) * bytes ≤ 140737488355328)
    (h : ∀ v' u', Kn w (.own e size v' (n + m) (xs ++ ys) :: R') F u' → wpList Tryd.prog ops Q rest (a.put o.dst v') u') : wpList Tryd.prog ops Q (o :: rest) a u := by
  obtain ⟨i, hi, hz0, hz1, hz2⟩ := info_parts hinfo
  refine wpList_append_own_at _ hgd s x t ho w.heap.size e i z size bytes ht hi hz0 hz1 hz2 hzc hsz v n xs hs (E.res _ H.h) ad m c ys hx hl hys h1 hn hb E.bel.size fun v' u' h2 h3 _ h5 => ?_
  obtain ⟨R1, R2, rfl, rfl⟩ := P.h
  refine h v' u' (Kn.perm (E.turn (r' := .own e size v' (n + m) (xs ++ ys)) h3 h2 ?_) List.perm_middle)
  rcases h5 with h5 | h5
  · exact .inl h5
  · exact .inr fun b e => by
      have : some b = some u.heap.size := e.symm.trans h5
      cases this
      exact Nat.le_refl _
theorem add_at' (g j : Nat) : (⟨g, 0, none⟩ : Addr).add j = ⟨g, j, none⟩ := by unfold Addr.add; split <;> simp_all
/-- What is appended is a block known whole. -/
theorem kn_append_row (E : Kn w R F u) (hgd : o.guard = none) {s x : Operand} {t : TypeId} (ho : o.op = .call { callee := .builtin .append, args := #[s, x], argTypes := #[t, t] })
    {v : Value} (hs : a.eval s = v) {e : TypeId} {size n : Nat} {xs : List Value} [H : HasOwnAny R v e size n xs] [P : Pull R (.own e size v n xs) R'] (ht : Tryd.prog.underlying t = some (.slice e))
    {z : Value} {bytes : Nat} (hinfo : (Tryd.prog.info? e).map (fun i => (i.zero, i.size, i.bytes)) = some (some z, size, bytes)) (hzc : z.cells.size = size) (hsz : 0 < size)
    {g m c : Nat} (hx : a.eval x = .slice (some ⟨g, 0, none⟩) m c) {t' : TypeId} {ys : List Value} [Sees R F g t' ys] (hl : ys.length = m * size) (h1 : ∀ y ∈ ys, y.oneCell' = true)
    (hn : n + m ≤ maxLen) (hb : (n + m) * bytes ≤ 140737488355328)
    (h : ∀ v' u', Kn w (.own e size v' (n + m) (xs ++ ys) :: R') F u' → wpList Tryd.prog ops Q rest (a.put o.dst v') u') : wpList Tryd.prog ops Q (o :: rest) a u :=
  kn_append E hgd ho hs ht hinfo hzc hsz hx hl (fun j y hy => by rw [add_at']; exact E.cell g j hy) h1 hn hb h

/-- A slice literal of one element. -/
theorem fill_one (size : Nat) (hs : 0 < size) (v : Value) (vs : List Value) (hv : v.cells = vs.toArray) (hl : vs.length = size) (cs : Array Value) (hc : cs.size = 1 * size) :
    Instr.fill (fun i => some (i * size, size)) cs [(0, v)] = some vs.toArray := by
  obtain ⟨r, h1, h2, h3⟩ := Great.fill_dense hs [v] 0 cs (by intro u hu; rw [List.mem_singleton.1 hu, hv]; simpa using hl) (by simp [hc])
  have e : (([v] : List Value).zipIdx 0).map (fun x => (x.2, x.1)) = [(0, v)] := rfl
  rw [e] at h1
  rw [h1]
  congr 1
  apply Array.ext_getElem?
  intro k
  rw [h3 k]
  by_cases hk : k < size
  · rw [if_pos (by simp; omega), Nat.div_eq_of_lt hk, Nat.mod_eq_of_lt hk]
    simp [hv]
  · rw [if_neg (by simp; omega), Array.getElem?_eq_none (by omega), Array.getElem?_eq_none (by simp; omega)]
theorem kn_build1 (E : Kn w R F u) (hgd : o.guard = none) {t e : TypeId} {x : Operand} (ho : o.op = .buildSlice t 1 #[(0, x)]) {v : Value} (hx : a.eval x = v) {vs : List Value} (hv : v.cells = vs.toArray) (hu : Tryd.prog.underlying t = some (.slice e))
    {z : Value} {bytes size : Nat} (hinfo : (Tryd.prog.info? e).map (fun i => (i.zero, i.size, i.bytes)) = some (some z, size, bytes)) (hl : vs.length = size) (hsz : 0 < size) (hs2 : size ≤ 16777216)
    (h : ∀ g u', Kn w (.row g e vs :: R) F u' → Below u.heap.size u u' → wpList Tryd.prog ops Q rest (a.put o.dst (.slice (some ⟨g, 0, none⟩) 1 1)) u') : wpList Tryd.prog ops Q (o :: rest) a u := by
  obtain ⟨i, hi, hz0, hz1, hz2⟩ := info_parts hinfo
  refine wpList_buildSlice hgd t e 1 _ ho vs.toArray i z hu hi hz0 (by rw [hz1]; omega) (by rw [hz1]; omega) ?_ (h _ _ (E.new e vs) (Below.box' u _))
  simp only [List.map_toArray, List.map_cons, List.map_nil]
  rw [hx, hz1]
  exact fill_one size hsz v vs hv hl _ (by simp)
end
end Go.Proofs.YtpdpjljfloanfaaDoor
