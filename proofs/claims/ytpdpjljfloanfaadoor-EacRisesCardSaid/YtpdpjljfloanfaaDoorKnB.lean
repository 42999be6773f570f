/- What reads as bytes lies in no block of numbers: known beside blocks that may be written. -/
import Derived.Test.YtpdpjljfloanfaaDoorBcPart
set_option linter.all false
namespace Go.Proofs.YtpdpjljfloanfaaDoor
open Go.RowKit
open Bi Lv Bc

/-- No block of these resources holds a byte. -/
class NoU8 (R : List Res) : Prop where
  h : ∀ {B : Nat} {u : World}, (∀ r ∈ R, r.holds B u) → ∀ b ∈ blocks R, ∀ i x, u.cell? ⟨b, i, none⟩ ≠ some (.int .u8 x)
instance : NoU8 [] := ⟨fun _ b hb => by simp [blocks] at hb⟩
instance {g : Nat} {t : TypeId} {zs : List Int} {R : List Res} [H : NoU8 R] : NoU8 (.row g t (i64s zs) :: R) := ⟨fun {B u} hr b hb i x hc => by
  rw [mem_blocks] at hb
  obtain ⟨r, hm, e⟩ := hb
  rcases List.mem_cons.1 hm with rfl | hm
  · have hrow : Row u g t (i64s zs) := (hr _ List.mem_cons_self).2
    cases e
    rw [cell_of_row u g i _ _ (0, 0) hrow] at hc
    simp [i64s, List.getElem?_map] at hc
  · exact H.h (fun s hs => hr s (List.mem_cons_of_mem _ hs)) b (mem_blocks.2 ⟨r, hm, e⟩) i x hc⟩
theorem Kn.new_bsi {w u : World} {R : List Res} {F : List (World → Prop)} [H : NoU8 R] (E : Kn w R F u) {A : Option Addr} {n : Nat} {xs : List Nat} (h : Bs u u.heap.size A n xs) : Kn w R (bsF A n xs :: F) u :=
  E.fact fun u' hk => by
    refine ⟨h.1, h.2.1, fun hn => ?_⟩
    obtain ⟨b, off, e, hb, hc⟩ := h.2.2 hn
    refine ⟨b, off, e, Nat.lt_of_lt_of_le hb hk.size, fun i hi => ?_⟩
    rw [World.cell?_of_block (w := u) (hk.block b hb fun hm => H.h E.res b hm _ _ (hc i hi))]
    exact hc i hi
end Go.Proofs.YtpdpjljfloanfaaDoor
