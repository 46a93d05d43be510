/-
  BOOKS AND ROWS that stand while other memory is written; an empty book. Nothing of the program is run here. Conditions stand at each fact.
-/
import Derived.Test.YtpgcidpghmoibaaKeepD
namespace Go.Proofs.Ytpgcidpghmoibaa
open Go.RowKit

theorem Book.same {w w' : World} {b c : Nat} {S : Nat → Prop} (h : Book w b S c) (hsz : w.heap.size ≤ w'.heap.size) (hk : ∀ k, k < w.heap.size → S k → w'.heap[k]? = w.heap[k]?) : Book w' b S c := by
  obtain ⟨rL, rM, L, M, BA, h1, h2, h3⟩ := h
  exact ⟨rL, rM, L, M, BA.same hsz (fun k hin => hk k (BA.inlt k hin) (h3 k hin)), h1, h2, h3⟩
theorem Book.mono {w : World} {b c : Nat} {S T : Nat → Prop} (h : Book w b S c) (hk : ∀ k, k < w.heap.size → S k → T k) : Book w b T c := by
  obtain ⟨rL, rM, L, M, BA, h1, h2, h3⟩ := h
  exact ⟨rL, rM, L, M, BA, h1, h2, fun k hin => hk k (BA.inlt k hin) (h3 k hin)⟩
theorem Book.below {w w' : World} {b c : Nat} {S : Nat → Prop} (h : Book w b S c) (hb : Below w.heap.size w w') : Book w' b S c := h.same hb.size (fun k hk _ => hb.block k hk)

/-- A row that is no part of what was written stands. -/
theorem own_kept {p : Nat → Prop} {w w' : World} {e size n : Nat} {v : Value} {xs : List Value} (h : w.ownsRow 0 e size v n xs) (hk : Kept p w w') (hp : ∀ k, v.ownBlock = some k → p k) : w'.ownsRow 0 e size v n xs :=
  own_same h (fun k e => hk.block k (h.lt k e).2 (hp k e))
theorem own_belowAll {w w' : World} {e size n : Nat} {v : Value} {xs : List Value} (h : w.ownsRow 0 e size v n xs) (hb : Below w.heap.size w w') : w'.ownsRow 0 e size v n xs :=
  own_same h (fun k e => hb.block k (h.lt k e).2)

/-- An empty book. -/
theorem book_new (w : World) (S : Nat → Prop) (hS : S w.heap.size) : Book (w.alloc (.cells #[.int .i64 0, .slice none 0 0, .slice none 0 0, .slice none 0 0, .slice none 0 0, .slice none 0 0, .slice none 0 0] 28)) w.heap.size S 0 := by
  refine ⟨fun _ => .slice none 0 0, fun _ => .slice none 0 0, fun _ => [], fun _ => [], ⟨heap_alloc_new w _, fun t => World.ownsRow_nil _ _ _ _, fun t => World.ownsRow_nil _ _ _ _, fun t k l m h => by simp at h, fun t l h => by simp at h, fun i j _ => Apart.nil _, fun i j _ => Apart.nil _, fun i j => Apart.nil _, fun i => by simp [Value.ownBlock], fun i => by simp [Value.ownBlock], fun t l h => by simp at h⟩, fun t => by simp, fun t m h => by simp at h, ?_⟩
  rintro k (rfl | ⟨t, ht⟩ | ⟨t, ht⟩ | ⟨t, l, hl, _⟩)
  · exact hS
  · simp [Value.ownBlock] at ht
  · simp [Value.ownBlock] at ht
  · simp at hl

end Go.Proofs.Ytpgcidpghmoibaa
