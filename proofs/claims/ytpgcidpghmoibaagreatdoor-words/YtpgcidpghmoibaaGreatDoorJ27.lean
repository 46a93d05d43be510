/-
  THE BOOK of the statements: a book whose blocks are all in a set, after some lists were kept; small facts on memory. Nothing of the program is run here. Conditions stand at each fact.
-/
import Derived.Test.YtpgcidpghmoibaaGreatDoorJ26
import Derived.Deep.AppendLies
import Derived.Deep.RegionLaw
namespace Go.Proofs.YtpgcidpghmoibaaGreatDoor
open Go.RowKit

/-- A book whose blocks are all in S, after c lists were kept. -/
def Book (w : World) (b : Nat) (S : Nat → Prop) (c : Nat) : Prop :=
  ∃ rL rM L M, BookAt w b (c : Int) rL rM L M ∧ (∀ t, (L t).length = (M t).length ∧ (L t).length ≤ 4 * c) ∧ (∀ t, ∀ m ∈ M t, -(c : Int) ≤ m ∧ m ≤ 0) ∧ ∀ k, InBook b rL rM L k → S k

theorem infoIl : (Tryz.prog.info? 33).map (fun i => (i.zero, i.size, i.bytes)) = some (some (.slice none 0 0), 1, 24) := by kernel_rfl

theorem cell_blk {w : World} {b : Nat} {cs : Array Value} {t : TypeId} (h : w.heap[b]? = some (.cells cs t (0, 0))) (i : Nat) (v : Value) (hv : cs[i]? = some v) : w.cell? ⟨b, i, none⟩ = some v := by
  simp [World.cell?, h, hv]
theorem free_blk {w : World} {b : Nat} {cs : Array Value} {t : TypeId} (h : w.heap[b]? = some (.cells cs t (0, 0))) (i : Nat) : w.frozen? ⟨b, i, none⟩ = false := by
  simp [World.frozen?, h]

theorem lies_of {w : World} {u : Value} {g n cap H : Nat} (h : u.ownBlock = some g ∨ g = H) (hH : w.heap.size ≤ H) : Lies w u (.slice (some ⟨g, 0, none⟩) n cap) := by
  rcases h with h | h
  · exact .inl (by rw [h]; rfl)
  · exact .inr ⟨g, rfl, by omega⟩

theorem wrap_neg (m : Int) (h1 : 1 ≤ m) (h2 : m ≤ 100000001) : IntKind.i64.wrap (-m) = -m := by
  rw [IntKind.wrap_i64]; omega

theorem set_full {α : Type} (xs : List α) (u : α) (k : Nat) (h : k < xs.length) : (List.replicate k u ++ xs.drop k).set k u = List.replicate (k + 1) u ++ xs.drop (k + 1) := by
  rw [List.set_append_right _ _ (by simp)]
  simp only [List.length_replicate, Nat.sub_self]
  rw [List.drop_eq_getElem_cons h, List.set_cons_zero, List.replicate_succ', List.append_assoc]
  rfl

theorem own_cell1 {w : World} {b e n g cap : Nat} {xs : List Value} (h : w.ownsRow b e 1 (.slice (some ⟨g, 0, none⟩) n cap) n xs) {k : Nat} {u : Value} (hu : xs[k]? = some u) : w.cell? ⟨g, k, none⟩ = some u := by
  have := h.cells (g := g) rfl k u hu
  have hadd : (⟨g, 0, none⟩ : Addr).add k = ⟨g, k, none⟩ := by unfold Addr.add; split <;> simp_all
  rw [hadd] at this
  exact this

end Go.Proofs.YtpgcidpghmoibaaGreatDoor
