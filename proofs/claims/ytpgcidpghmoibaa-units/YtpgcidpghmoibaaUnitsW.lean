/-
  THE WALK of the program's Units: the runes and the beginnings of the text's units, in new memory; or the error of a long text and nothing. Conditions: none on a long text; a short one has at most 1000 bytes.
-/
import Derived.Test.YtpgcidpghmoibaaRows
import Derived.Test.YtpgcidpghmoibaaPlain
import Derived.WalkKit
import Derived.WalkSpells
import Derived.WalkLawsBesides
import Derived.WalkSmall
import Derived.Deep.AppendLies
namespace Go.Proofs.Ytpgcidpghmoibaa
open Go.RowKit

theorem infoInt : (Try.prog.info? 3).map (fun i => (i.zero, i.size, i.bytes)) = some (some (.int .i64 0), 1, 8) := by kernel_rfl
theorem infoI32 : (Try.prog.info? 21).map (fun i => (i.zero, i.size, i.bytes)) = some (some (.int .i32 0), 1, 4) := by kernel_rfl

set_option maxRecDepth 100000 in
set_option maxHeartbeats 400000 in
theorem units_long (s : ByteArray) (w : World) (h : 1000 < s.size) (_hs : s.size ≤ maxLen) :
    Calls Try.prog 4 #[.string s] w fun e w' => e = .returned (.tuple #[.slice none 0 0, .slice none 0 0, .int .i64 1]) ∧ w' = w := by
  go_enter Try.func4, Try.ntmps4
  go_wp2
  go_ret3
  exact ⟨rfl, rfl⟩

/-- Rows of two kinds lie in two blocks. -/
theorem apart_of_types {w : World} {b b' : Nat} {e e' : TypeId} {v v' : Value} {n n' : Nat} {xs xs' : List Value} (h : w.ownsRow b e 1 v n xs) (h' : w.ownsRow b' e' 1 v' n' xs') (hne : e ≠ e') : v'.ownBlock = none ∨ v'.ownBlock ≠ v.ownBlock := by
  rcases h'.2 with ⟨rfl, _⟩ | ⟨g', _, cur', rfl, _, hg', _⟩
  · exact .inl rfl
  · rcases h.2 with ⟨rfl, _⟩ | ⟨g, _, cur, rfl, _, hg, _⟩
    · right; simp [Value.ownBlock]
    · right
      intro e1
      simp only [Value.ownBlock, Option.some.injEq] at e1
      subst e1
      rw [hg'] at hg
      simp only [Option.some.injEq, Obj.cells.injEq] at hg
      exact hne hg.2.1.symm

/-- What an append to a row of the call's own leaves of all that lies elsewhere. -/
theorem after_append {w W w2 : World} {B : Nat} {o it : Obj} {v : Value} (hg : (W.alloc o).grownBy w2 v.ownBlock) (hv : ∀ k, v.ownBlock = some k → B + 1 ≤ k ∧ k < W.heap.size) (hit : W.heap[B]? = some it) (hbw : Below B w W) :
    w2.heap[B]? = some it ∧ Below B w w2 ∧ W.heap.size + 1 ≤ w2.heap.size := by
  have hlt := lt_of_block hit
  refine ⟨?_, Below.grown (hbw.alloc (by omega) _) hg (by simp; omega) (fun k hk => by have := (hv k hk).1; omega), by have := hg.size; simpa using this⟩
  rw [hg.block B (by simp; omega) (fun h => by have := (hv _ h.symm).1; omega), Below.heap_alloc _ _ _ hlt]
  exact hit

theorem runes32_snoc (l : List (Nat × Nat)) (x : Nat × Nat) : U.runes32 (l ++ [x]) = U.runes32 l ++ [.int .i32 x.1] := by simp [U.runes32]
theorem runes64_snoc (l : List (Nat × Nat)) (x : Nat × Nat) : U.runes64 (l ++ [x]) = U.runes64 l ++ [.int .i64 x.1] := by simp [U.runes64]
theorem starts64_snoc (l : List (Nat × Nat)) (x : Nat × Nat) : U.starts64 (l ++ [x]) = U.starts64 l ++ [.int .i64 x.2] := by simp [U.starts64]

set_option maxRecDepth 100000 in
set_option maxHeartbeats 1000000 in
theorem units_short (s : ByteArray) (w : World) (h : s.size ≤ 1000) :
    Calls Try.prog 4 #[.string s] w fun e w' => ∃ v1 v2, e = .returned (.tuple #[v1, v2, .int .i64 0]) ∧
      w'.ownsRow (w.heap.size + 1) 21 1 v1 (U.units s).length (U.runes32 (U.units s)) ∧ w'.ownsRow (w.heap.size + 1) 3 1 v2 (U.units s).length (U.starts64 (U.units s)) ∧ Below w.heap.size w w' := by
  obtain ⟨i0, hi, hz0, hz1, hz2⟩ := info_parts infoInt
  obtain ⟨j0, hj, hy0, hy1, hy2⟩ := info_parts infoI32
  go_enter Try.func4, Try.ntmps4
  go_wp2
  go_loopw [5, 6] (fun v1 v2 wr => ∃ (pos : Nat) (l : List (Nat × Nat)), wr.heap[w.heap.size]? = some (.stringIter s pos) ∧ wr.ownsRow (w.heap.size + 1) 21 1 v1 l.length (U.runes32 l) ∧ wr.ownsRow (w.heap.size + 1) 3 1 v2 l.length (U.starts64 l) ∧ Below w.heap.size w wr ∧ U.Upto s pos l)
    (fun _ _ wr => s.size - wr.iterPos w.heap.size)
  case atStart => exact ⟨0, [], World.iter_heap w s 0, World.ownsRow_nil _ _ _ _, World.ownsRow_nil _ _ _ _, (Below.refl _ _).alloc (Nat.le_refl _) _, U.Upto.zero s⟩
  case round =>
    obtain ⟨pos, l, hit, hown1, hown2, hbw, hup⟩ := hrel
    have hpos0 := iterPos_of hit
    have hl := hup.length
    have hle := hup.1
    have HU : Hid (U.Upto s pos l) := hup
    clear hup
    by_cases hp : pos < s.size
    · have hnx : ∀ ty, (Instr.next (.pointer (some ⟨w.heap.size, 0, none⟩)) true ty).run Try.prog wr = _ := fun ty => Lib.run_next_any_at wr w.heap.size s pos ty hit hp
      have hwd := U.width s pos hp
      have hit2 := Lib.iterAt_heap wr w.heap.size s pos (pos + (Utf8.decode s pos).2) hit
      have hbw2 := Lib.below_iterAt hbw (k := w.heap.size) (Nat.le_refl _) s (pos + (Utf8.decode s pos).2)
      have ho1 := ownsRow_iterAt hown1 (k := w.heap.size) (by omega) s (pos + (Utf8.decode s pos).2)
      have ho2 := ownsRow_iterAt hown2 (k := w.heap.size) (by omega) s (pos + (Utf8.decode s pos).2)
      obtain ⟨W1, hW1⟩ : ∃ W1, W1 = wr.iterAt w.heap.size s (pos + (Utf8.decode s pos).2) := ⟨_, rfl⟩
      rw [← hW1] at hnx hit2 hbw2 ho1 ho2
      have hBlt := lt_of_block hit2
      clear hW1 hit hown1 hown2 hbw
      go_wp2_with (first
        | (at_builtin; refine wpList_append_own _ rfl (.tmp 18) (.tmp 20) 29 rfl (w.heap.size + 1) 21 j0 (.int .i32 0) 1 4 Try.underlying29 hj hy0 hy1 hy2 rfl (by decide) _ _ _ rfl (ho1.alloc _) ⟨W1.heap.size, 0, none⟩ 1 1 [.int .i32 ((Utf8.decode s pos).1 : Int)] rfl rfl (cell_one_new _ _ _) (fun x hx => by simp at hx; subst hx; rfl) (by unfold maxLen; omega) (by omega) (by simp; omega) ?_
           intro v1 w2 hn1 hg1 _
           have A1 := after_append hg1 (fun k hk => ho1.lt k hk) hit2 hbw2
           have k2 : w2.ownsRow (w.heap.size + 1) 3 1 u6 l.length (U.starts64 l) := (ho2.alloc _).kept hg1 (apart_of_types ho1 ho2 (by decide))
           have hs2 := A1.2.2
           have X1 : Hid (w2.ownsRow (w.heap.size + 1) 21 1 v1 (l.length + 1) (U.runes32 l ++ [.int .i32 ((Utf8.decode s pos).1 : Int)]) ∧ w2.heap[w.heap.size]? = some (.stringIter s (pos + (Utf8.decode s pos).2)) ∧ Below w.heap.size w w2) := ⟨hn1, A1.1, A1.2.1⟩
           clear hn1 hg1 A1 ho1 ho2 hit2 hbw2 hnx)
        | (at_builtin; refine wpList_append_own _ rfl (.tmp 22) (.tmp 24) 24 rfl (w.heap.size + 1) 3 i0 (.int .i64 0) 1 8 Try.underlying24 hi hz0 hz1 hz2 rfl (by decide) _ _ _ rfl (k2.alloc _) ⟨w2.heap.size, 0, none⟩ 1 1 [.int .i64 (pos : Int)] rfl rfl (cell_one_new _ _ _) (fun x hx => by simp at hx; subst hx; rfl) (by unfold maxLen; omega) (by omega) (by simp; omega) ?_
           intro v2 w3 hn2 hg2 _
           have A2 := after_append hg2 (fun k hk => k2.lt k hk) X1.out.2.1 X1.out.2.2
           have k1 : w3.ownsRow (w.heap.size + 1) 21 1 v1 (l.length + 1) (U.runes32 l ++ [.int .i32 ((Utf8.decode s pos).1 : Int)]) := (X1.out.1.alloc _).kept hg2 (apart_of_types k2 X1.out.1 (by decide))
           have X2 : Hid (w3.ownsRow (w.heap.size + 1) 21 1 v1 (l.length + 1) (U.runes32 l ++ [.int .i32 ((Utf8.decode s pos).1 : Int)]) ∧ w3.ownsRow (w.heap.size + 1) 3 1 v2 (l.length + 1) (U.starts64 l ++ [.int .i64 (pos : Int)]) ∧ w3.heap[w.heap.size]? = some (.stringIter s (pos + (Utf8.decode s pos).2)) ∧ Below w.heap.size w w3) := ⟨k1, hn2, A2.1, A2.2.1⟩
           clear hn2 hg2 A2 k1 k2 X1))
      go_roundw
      case rel =>
        refine ⟨_, l ++ [((Utf8.decode s pos).1, pos)], X2.out.2.2.1, ?_, ?_, X2.out.2.2.2, HU.out.step hp⟩
        · rw [runes32_snoc, List.length_append]; exact X2.out.1
        · rw [starts64_snoc, List.length_append]; exact X2.out.2.1
      case measure => rw [iterPos_of X2.out.2.2.1, hpos0]; omega
    · have hnx : ∀ ty, (Instr.next (.pointer (some ⟨w.heap.size, 0, none⟩)) true ty).run Try.prog wr = _ := fun ty => Lib.run_next_end_at wr w.heap.size s pos ty hit hp
      have E := HU.out.done (by omega)
      subst E
      clear hl
      go_wp2
      go_ret3
      exact ⟨_, _, rfl, hown1, hown2, hbw⟩

end Go.Proofs.Ytpgcidpghmoibaa
