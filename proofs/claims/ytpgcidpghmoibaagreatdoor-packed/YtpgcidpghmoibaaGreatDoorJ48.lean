/-
  THE LAWS' HELPER begin: rules that cut words off. Condition: the library's tables lie in memory as the text lays them.
-/
import Derived.Test.YtpgcidpghmoibaaGreatDoorJ46
namespace Go.Proofs.YtpgcidpghmoibaaGreatDoor
namespace Pr
open Go.RowKit
open G (PNode)

set_option maxRecDepth 100000 in
set_option maxHeartbeats 1000000 in
theorem begin_any (w : World) (hT : Tabs w) : Calls Tryz.prog 23 #[] w fun e w' => (∃ b m I v V P f, e = .returned (pv b) ∧ PIn w' b m I v V G.wordsT ([] ++ [G.wT3.length]) P f) ∧ Below w.heap.size w w' := by
  have hC := words_comp w hT
  have hwf := (words_wf w).1
  go_enter Tryz.func23, Tryz.ntmps23
  go_wp2_with (first
    | (go_at_call 27
       refine hM.mono ?_
       rintro e w2 ⟨⟨vo, l, rfl, hcut, ho⟩, hb2⟩
       have hl : l = [⟨0, 2, 0⟩, ⟨2, 3, -1⟩] := (hcut.one (G.ab1_cut hwf))
       subst hl
       have ho := own_zero ho
       obtain ⟨a4, d4, hv4⟩ := own_len' ho
       subst hv4
       obtain ⟨g, hg, h0⟩ := seg_cells ho (k := 0) (x := ⟨0, 2, 0⟩) rfl (by decide)
       subst hg
       obtain ⟨g', hg', h1⟩ := seg_cells ho (k := 1) (x := ⟨2, 3, -1⟩) rfl (by decide)
       obtain rfl : g = g' := (by simpa using hg')
       obtain ⟨r00, r01, r02⟩ := h0 w2 (Below.refl _ _)
       obtain ⟨r10, r11, r12⟩ := h1 w2 (Below.refl _ _)
       have heq := eqSeg 0 2 0 0 2 0
       have heq1 := eqSeg 2 3 (-1) 2 3 (-1)
       clear h0 h1 hg' hcut ho)
    | (go_at_call 13
       refine hC.mono ?_
       rintro e w1 ⟨⟨b, m, I, v, V, P, f, rfl, hP⟩, hb1⟩
       have hM := pcut_short w1 b m I v V G.wordsT _ P f hP G.ab1 (by decide)))
  go_ret
  exact ⟨⟨b, m, I, v, V, P, f, rfl, hP.below hb2⟩, hb1.trans (hb2.mono hb1.size)⟩

end Pr
end Go.Proofs.YtpgcidpghmoibaaGreatDoor
