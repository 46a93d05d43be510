/-
  THE LAWS' HELPER begin: rules that cut words off. Condition: the library's tables lie in memory as the text lays them.
  THE WALK of the statement Parted's law: it answers true of every two texts. Condition: the library's tables lie in memory as the text lays them.
-/
import Derived.Test.YtpgcidpghmoibaaGreatDoorJ46
import Derived.Test.YtpgcidpghmoibaaGreatDoorJ47
import Derived.Laws.Cover4
import Derived.Deep.QuietTactic
import Derived.BigQuiet
namespace Go.Proofs.YtpgcidpghmoibaaGreatDoor
namespace Pr
open Go.RowKit
open G (PNode)

set_option maxRecDepth 100000 in
set_option maxHeartbeats 1000000 in
theorem begin_any (w : World) (hT : Tabs w) : Calls Tryz.prog 23 #[] w fun e w' => (∃ b m I v V P f, e = .returned (pv b) ∧ PIn w' b m I v V G.wordsT ([] ++ [G.wT3.length]) P f) ∧ Below w.heap.size w w' := by
  have hC := words_comp w hT
  have hwf := (words_wf w).1
  go_enter Tryz.func23, Tryz.ntmps23
  go_wp2_with (first
    | (go_at_call 27
       refine hM.mono ?_
       rintro e w2 ⟨⟨vo, l, rfl, hcut, ho⟩, hb2⟩
       have hl : l = [⟨0, 2, 0⟩, ⟨2, 3, -1⟩] := (hcut.one (G.ab1_cut hwf))
       subst hl
       have ho := own_zero ho
       obtain ⟨a4, d4, hv4⟩ := own_len' ho
       subst hv4
       obtain ⟨g, hg, h0⟩ := seg_cells ho (k := 0) (x := ⟨0, 2, 0⟩) rfl (by decide)
       subst hg
       obtain ⟨g', hg', h1⟩ := seg_cells ho (k := 1) (x := ⟨2, 3, -1⟩) rfl (by decide)
       obtain rfl : g = g' := (by simpa using hg')
       obtain ⟨r00, r01, r02⟩ := h0 w2 (Below.refl _ _)
       obtain ⟨r10, r11, r12⟩ := h1 w2 (Below.refl _ _)
       have heq := eqSeg 0 2 0 0 2 0
       have heq1 := eqSeg 2 3 (-1) 2 3 (-1)
       clear h0 h1 hg' hcut ho)
    | (go_at_call 13
       refine hC.mono ?_
       rintro e w1 ⟨⟨b, m, I, v, V, P, f, rfl, hP⟩, hb1⟩
       have hM := pcut_short w1 b m I v V G.wordsT _ P f hP G.ab1 (by decide)))
  go_ret
  exact ⟨⟨b, m, I, v, V, P, f, rfl, hP.below hb2⟩, hb1.trans (hb2.mono hb1.size)⟩

end Pr
end Go.Proofs.YtpgcidpghmoibaaGreatDoor

namespace Go.Proofs.YtpgcidpghmoibaaGreatDoor
namespace U
/-- Where unit k ends. -/
def endU (s : ByteArray) (k : Nat) : Nat := match (units s)[k + 1]? with | some y => y.2 | none => s.size
theorem rest_at (s : ByteArray) : ∀ (k p : Nat) (x : Nat × Nat), p ≤ s.size → (rest s p)[k]? = some x → p ≤ x.2 ∧ x.2 < s.size ∧ x.1 = (Utf8.decode s x.2).1 ∧ (match (rest s p)[k + 1]? with | some y => y.2 | none => s.size) = x.2 + (Utf8.decode s x.2).2
  | k, p, x, hp, h => by
    have hlt : p < s.size := by
      rcases Nat.lt_or_ge p s.size with e | e
      · exact e
      · rw [rest_end s p e] at h; simp at h
    have hw := width s p hlt
    rw [rest_step s p hlt] at h ⊢
    cases k with
    | zero =>
      simp only [List.getElem?_cons_zero, Option.some.injEq] at h
      subst h
      refine ⟨Nat.le_refl _, hlt, rfl, ?_⟩
      simp only [List.getElem?_cons_succ]
      rcases Nat.lt_or_ge (p + (Utf8.decode s p).2) s.size with e | e
      · rw [rest_step s _ e]; rfl
      · rw [rest_end s _ e]
        show s.size = _
        omega
    | succ k =>
      simp only [List.getElem?_cons_succ] at h ⊢
      obtain ⟨h1, h2, h3, h4⟩ := rest_at s k _ x hw.2 h
      exact ⟨by omega, h2, h3, h4⟩
theorem unit_at (s : ByteArray) (k : Nat) (x : Nat × Nat) (h : (units s)[k]? = some x) : x.2 < s.size ∧ x.1 = (Utf8.decode s x.2).1 ∧ endU s k = x.2 + (Utf8.decode s x.2).2 ∧ (k = 0 → x.2 = 0) := by
  obtain ⟨_, h2, h3, h4⟩ := rest_at s k 0 x (Nat.zero_le _) h
  refine ⟨h2, h3, h4, fun hk => ?_⟩
  subst hk
  unfold units at h
  rw [rest_step s 0 (by omega)] at h
  simp only [List.getElem?_cons_zero, Option.some.injEq] at h
  rw [← h]
end U
namespace Pr
open Go.RowKit

theorem row_cell {w : World} {e : TypeId} {la : Option Addr} {n lc : Nat} {xs : List Value} (h : w.ownsRow 0 e 1 (.slice la n lc) n xs) {k : Nat} {u : Value} (hu : xs[k]? = some u) (hk : k < n) :
    ∃ g, la = some ⟨g, 0, none⟩ ∧ ∀ wr, Below w.heap.size w wr → wr.cell? ⟨g, k, none⟩ = some u := by
  obtain ⟨g, cap, hv, _, hlt⟩ := h.form (by omega)
  simp only [Value.slice.injEq] at hv
  obtain ⟨rfl, _, rfl⟩ := hv
  refine ⟨g, rfl, fun wr hb => ?_⟩
  rw [hb.cell (p := ⟨g, k, none⟩) hlt]
  exact own_cell1 h hu

set_option maxRecDepth 100000 in
set_option maxHeartbeats 2000000 in
theorem parted_long (w : World) (s t : ByteArray) (hs : 1000 < s.size) (hm : s.size ≤ maxLen) (hT : Tabs w) :
    Calls Tryz.prog 5 #[.string s, .string t] w fun e w' => e = .returned (.bool true) ∧ Below w.heap.size w w' := by
  go_enter Tryz.func5, Tryz.ntmps5
  go_wp2_with (first
    | (go_at_call 23; refine (begin_any w hT).mono ?_; rintro e w1 ⟨⟨b, m, I, v, V, P, f, rfl, hP⟩, hb1⟩)
    | (go_at_call 24; refine (units_long s _ hs hm).mono ?_; rintro e w2 ⟨rfl, rfl⟩))
  go_ret
  exact ⟨rfl, hb1⟩
end Pr
end Go.Proofs.YtpgcidpghmoibaaGreatDoor
