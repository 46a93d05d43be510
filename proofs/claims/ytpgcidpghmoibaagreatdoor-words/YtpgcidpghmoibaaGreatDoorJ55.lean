/-
  THE LAWS' HELPER begin, once more: the rules that it gives, as rules that may be asked whether runes are the Same; and the laws' helper pick. Condition: the library's tables lie in memory as the text lays them.
-/
import Derived.Test.YtpgcidpghmoibaaGreatDoorJ50
import Derived.Test.YtpgcidpghmoibaaGreatDoorJ49
namespace Go.Proofs.YtpgcidpghmoibaaGreatDoor
namespace Pr
open Go.RowKit
open G (PNode)

set_option maxRecDepth 100000 in
set_option maxHeartbeats 1000000 in
theorem begin_ru (w : World) (hT : Tabs w) : Calls Tryz.prog 23 #[] w fun e w' => (∃ b, e = .returned (pv b) ∧ RuP w' b G.wordsT ([] ++ [G.wT3.length])) ∧ Below w.heap.size w w' := by
  have hC : Calls Tryz.prog 13 #[.string ⟨#[91, 97, 45, 122, 93, 43, 59]⟩] w fun e w' => Below w.heap.size w w' ∧ ∃ b, w.heap.size ≤ b ∧ e = .returned (.tuple #[pv b, .int .i64 0, .int .i64 0]) ∧ RuP w' b G.wordsT ([] ++ [G.wT3.length]) :=
    comp_ok w G.wordsB G.wordsT _ (by decide) G.words_src (by decide) (by rw [G.words_size]; omega) hT
  have hwf := (words_wf w).1
  go_enter Tryz.func23, Tryz.ntmps23
  go_wp2_with (first
    | (go_at_call 27
       refine hM.mono ?_
       rintro e w2 ⟨⟨vo, l, rfl, hcut, ho⟩, hb2⟩
       have hl : l = [⟨0, 2, 0⟩, ⟨2, 3, -1⟩] := (hcut.one (G.ab1_cut hwf))
       subst hl
       have ho := Rf.own_zero ho
       obtain ⟨a4, d4, hv4⟩ := Rf.own_len ho
       subst hv4
       obtain ⟨g, hg, h0⟩ := Rf.seg_to ho (k := 0) (x := ⟨0, 2, 0⟩) rfl (by decide)
       subst hg
       obtain ⟨g', hg', h1⟩ := Rf.seg_to ho (k := 1) (x := ⟨2, 3, -1⟩) rfl (by decide)
       obtain rfl : g = g' := (by simpa using hg')
       obtain ⟨r00, r01, r02⟩ := h0 w2 (Below.refl _ _)
       obtain ⟨r10, r11, r12⟩ := h1 w2 (Below.refl _ _)
       have heq := eqSeg 0 2 0 0 2 0
       have heq1 := eqSeg 2 3 (-1) 2 3 (-1)
       clear h0 h1 hg' hcut ho)
    | (go_at_call 13
       refine hC.mono ?_
       rintro e w1 ⟨hb1, b, _, rfl, hR⟩
       obtain ⟨m, I, v, V, P, f, hP⟩ := hR.pin
       have hM := pcut_short w1 b m I v V G.wordsT _ P f hP G.ab1 (by decide)))
  go_ret
  exact ⟨⟨b, rfl, hR.below hb2⟩, hb1.trans (hb2.mono hb1.size)⟩

set_option maxRecDepth 100000 in
theorem pick_any (c : Int) (w : World) (h1 : -9223372036854775808 ≤ c) (h2 : c ≤ 9223372036854775807) : Calls Tryz.prog 30 #[.int .i64 c, .int .i64 26] w fun e w' => (∃ k : Nat, k < 26 ∧ e = .returned (.int .i64 (k : Int))) ∧ w' = w := by
  have key : ∀ x : Int, 0 ≤ x → ∃ k : Nat, k < 26 ∧ x.tmod 26 = (k : Int) := fun x hx => ⟨(x.tmod 26).toNat, by
    have := Int.tmod_lt_of_pos x (show (0 : Int) < 26 by omega)
    have h0 := Int.tmod_nonneg 26 hx
    omega, by
    have h0 := Int.tmod_nonneg 26 hx
    omega⟩
  by_cases hc : c < 0
  · have hw1 : wrap64 (c + 1) = c + 1 := by unfold wrap64; omega
    have hw2 : wrap64 (-(c + 1)) = -(c + 1) := by unfold wrap64; omega
    have hw3 : IntKind.i64.wrap (c + 1) = c + 1 := by rw [IntKind.wrap_i64]; omega
    have hw4 : IntKind.i64.wrap (-(c + 1)) = -(c + 1) := by rw [IntKind.wrap_i64]; omega
    obtain ⟨k, hk, he⟩ := key (-(c + 1)) (by omega)
    go_enter Tryz.func30, Tryz.ntmps30
    go_wp2
    go_ret
    exact ⟨⟨k, hk, by first | rfl | (rw [← he]; first | rfl | (congr 2; omega))⟩, rfl⟩
  · obtain ⟨k, hk, he⟩ := key c (by omega)
    go_enter Tryz.func30, Tryz.ntmps30
    go_wp2
    go_ret
    exact ⟨⟨k, hk, by first | rfl | (rw [← he]; first | rfl | (congr 2; omega))⟩, rfl⟩

end Pr
end Go.Proofs.YtpgcidpghmoibaaGreatDoor
