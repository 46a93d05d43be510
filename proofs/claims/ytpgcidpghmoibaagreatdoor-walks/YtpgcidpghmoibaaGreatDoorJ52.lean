/-
  THE LIBRARY's BinarySearch at any ascending numbers. Conditions: the cells hold them, there are at most 100001.
  THE PROGRAM's cursors: a cursor as memory; the walks of the library's BinarySearch at any ascending numbers, and of the cursor's calls: goTo, seek, First, Last, Following, Preceding, Next, Previous, IsBoundary, Current. Conditions: the boundaries ascend, the first is 0, there are at most 100000.
  THE PROGRAM's Over: a cursor over the segments of a text. Conditions: the rules may be asked; the text has at most 1000 bytes (or more: then there is none).
-/
import Derived.Test.YtpgcidpghmoibaaGreatDoorJ44
import Derived.Test.YtpgcidpghmoibaaGreatDoorJ49
import Derived.Deep.Cut
namespace Go.Proofs.YtpgcidpghmoibaaGreatDoor
namespace Pr
open Go.RowKit

set_option maxRecDepth 100000 in
set_option maxHeartbeats 1000000 in
theorem bsg_any (w : World) (E : Nat → Int) (N g c : Nat) (hN : N ≤ 100000) (cell : ∀ k, k ≤ N → w.cell? ⟨g, k, none⟩ = some (.int .i64 (E k))) (mono : ∀ i k, i ≤ k → k ≤ N → E i ≤ E k) (a : Int) :
    Calls Tryz.prog 93 #[.slice (some ⟨g, 0, none⟩) (N + 1) c, .int .i64 a] w fun e w' => (∃ i : Nat, i ≤ N + 1 ∧ (∀ k, k < i → E k < a) ∧ (∀ k, i ≤ k → k ≤ N → a ≤ E k) ∧ e = .returned (.tuple #[.int .i64 (i : Int), .bool (bsB N i (E i) a)])) ∧ w' = w := by
  go_enter Tryz.func93, Tryz.ntmps93
  go_wp2
  go_loop [7, 8, 9] (fun vi vj _ => ∃ i j : Nat, vi = .int .i64 i ∧ vj = .int .i64 j ∧ i ≤ j ∧ j ≤ N + 1 ∧ (∀ k, k < i → E k < a) ∧ (∀ k, j ≤ k → k ≤ N → a ≤ E k)) (fun vi vj _ => (intOf vj).toNat - (intOf vi).toNat)
  case atStart => exact ⟨0, N + 1, rfl, by first | rfl | go_num, Nat.zero_le _, Nat.le_refl _, fun k hk => by omega, fun k h1 h2 => by omega⟩
  case round =>
    obtain ⟨i, j, rfl, rfl, hij, hjn, hlo, hhi⟩ := hrel
    have HL : Hid _ := And.intro hlo hhi
    clear hlo hhi
    by_cases hlt : i < j
    · have hd0 : i ≤ (i + j) / 2 ∧ (i + j) / 2 < j := by omega
      have c0 := cell ((i + j) / 2) (by omega)
      have hLe := less_any (E ((i + j) / 2)) a w
      by_cases hc : E ((i + j) / 2) < a
      · rw [decide_eq_true hc] at hLe
        have HG : Hid (∀ k, k < (i + j) / 2 + 1 → E k < a) := fun k hk => by have := mono k ((i + j) / 2) (by omega) (by omega); omega
        clear hc mono cell
        go_wp2_with (go_at_call 121; refine hLe.mono ?_; rintro e w1 ⟨rfl, rfl⟩)
        refine ⟨⟨(i + j) / 2 + 1, j, by first | go_num | (congr 1; omega), rfl, by omega, hjn, HG.out, HL.out.2⟩, by simp [intOf]; omega⟩
      · rw [decide_eq_false hc] at hLe
        have HG : Hid (∀ k, (i + j) / 2 ≤ k → k ≤ N → a ≤ E k) := fun k hk hkN => by have := mono ((i + j) / 2) k (by omega) hkN; omega
        clear hc mono cell
        go_wp2_with (go_at_call 121; refine hLe.mono ?_; rintro e w1 ⟨rfl, rfl⟩)
        refine ⟨⟨i, (i + j) / 2, rfl, by first | go_num | (congr 1; omega), by omega, by omega, HL.out.1, HG.out⟩, by simp [intOf]; omega⟩
    · have e : i = j := by omega
      subst e
      by_cases hi : i ≤ N
      · have c0 := cell i hi
        by_cases hq : E i = a
        · have hqb : (E i == a) = true := by simpa using hq
          have HQ : Hid (bsB N i (E i) a = true) := bsB_iff.2 ⟨hi, hq⟩
          clear hq mono cell
          go_wp2_with (go_at_call 122; refine (nan_any _ _).mono ?_; rintro e w1 ⟨rfl, rfl⟩)
          go_ret2
          exact ⟨⟨i, hjn, HL.out.1, HL.out.2, ret_ib (x := true) HQ.out.symm⟩, rfl⟩
        · have hqb : (E i == a) = false := by simpa using hq
          have HQ : Hid (bsB N i (E i) a = false) := by show bsB _ _ _ _ = false; simp [bsB, hq]
          clear hq mono cell
          go_wp2_with (go_at_call 122; refine (nan_any _ _).mono ?_; rintro e w1 ⟨rfl, rfl⟩)
          go_ret2
          exact ⟨⟨i, hjn, HL.out.1, HL.out.2, ret_ib (x := false) HQ.out.symm⟩, rfl⟩
      · have HQ : Hid (bsB N i (E i) a = false) := by show bsB _ _ _ _ = false; simp [bsB, hi]
        clear mono cell
        go_wp2
        go_ret2
        exact ⟨⟨i, hjn, HL.out.1, HL.out.2, ret_ib (x := false) HQ.out.symm⟩, rfl⟩

end Pr
end Go.Proofs.YtpgcidpghmoibaaGreatDoor

namespace Go.Proofs.YtpgcidpghmoibaaGreatDoor
namespace Pr
open Go.RowKit
open Rf (Kept)
open Cs

set_option maxRecDepth 100000 in
set_option maxHeartbeats 1000000 in
theorem goTo_any (w : World) (c : Nat) (v : Value) (B : List Nat) (a : Nat) (h : Cu 131 w c v B a) (hB : Bn B) (n : Int) :
    Calls Tryz.prog 71 #[pv c, .int .i64 n] w fun e w' => MovesTo 131 w c v B a (gotoR B n) e w' := by
  have hpos := hB.pos
  have hfew := hB.few
  obtain ⟨g, cap, rfl, hgc, cell⟩ := h.cells hpos
  have c0 := Rf.cell_blk h.blk 0 (.slice (some ⟨g, 0, none⟩) B.length cap) rfl
  by_cases h0 : n < 0
  · have hr : gotoR B n = -1 := by simp [gotoR, h0]
    rw [hr]
    have HR : Hid (Cu 131 w c (.slice (some ⟨g, 0, none⟩) B.length cap) B a) := h
    go_enter Tryz.func71, Tryz.ntmps71
    go_wp2
    go_ret
    exact ⟨rfl, by rw [G.stand_no]; exact HR.out, Rf.Kept.refl _ _⟩
  · by_cases h1 : (B.length : Int) ≤ n
    · have hr : gotoR B n = -1 := by
        unfold gotoR
        rw [if_neg h0, List.getElem?_eq_none (by omega)]
      rw [hr]
      have HR : Hid (Cu 131 w c (.slice (some ⟨g, 0, none⟩) B.length cap) B a) := h
      go_enter Tryz.func71, Tryz.ntmps71
      go_wp2
      go_ret
      exact ⟨rfl, by rw [G.stand_no]; exact HR.out, Rf.Kept.refl _ _⟩
    · obtain ⟨m, rfl⟩ : ∃ m : Nat, n = (m : Int) := ⟨n.toNat, by omega⟩
      have hm : m < B.length := by omega
      have hx : B[m]? = some B[m] := List.getElem?_eq_getElem hm
      generalize B[m] = x at hx
      have cx := cell m x hx
      have hr : gotoR B (m : Int) = (x : Int) := by
        unfold gotoR
        rw [if_neg h0]
        simp [hx]
      rw [hr]
      have hfz := Rf.free_blk h.blk 1
      have hput := h.put x
      have cu := Rf.cell_blk hput.1.blk 1 (.int .i64 (x : Int)) rfl
      have HR : Hid _ := hput
      clear hput cell
      have c1 := Rf.cell_blk h.blk 1 (.int .i64 (a : Int)) rfl
      go_enter Tryz.func71, Tryz.ntmps71
      go_wp2
      go_ret
      exact ⟨rfl, by rw [G.stand_nat]; exact HR.out.1, HR.out.2⟩

/-- Is the boundary with so many below it the place itself? -/
def seekB (B : List Nat) (i : Nat) (a : Int) : Bool := match B[i]? with | some x => decide ((x : Int) = a) | none => false
/-- What seek tells: how many boundaries lie below a place. -/
def SeekIs (B : List Nat) (a : Int) (i : Nat) : Prop := i ≤ B.length ∧ (∀ (k x : Nat), k < i → B[k]? = some x → (x : Int) < a) ∧ (∀ (k x : Nat), i ≤ k → B[k]? = some x → a ≤ (x : Int))

set_option maxRecDepth 100000 in
set_option maxHeartbeats 1000000 in
theorem seek_any (w : World) (c : Nat) (v : Value) (B : List Nat) (a : Nat) (h : Cu 131 w c v B a) (hB : Bn B) (p : Int) :
    Calls Tryz.prog 72 #[pv c, .int .i64 p] w fun e w' => (∃ i : Nat, SeekIs B p i ∧ e = .returned (.tuple #[.int .i64 (i : Int), .bool (seekB B i p)])) ∧ w' = w := by
  have hpos := hB.pos
  have hfew := hB.few
  obtain ⟨g, cap, rfl, hgc, cell⟩ := h.cells hpos
  have c0 := Rf.cell_blk h.blk 0 (.slice (some ⟨g, 0, none⟩) B.length cap) rfl
  obtain ⟨N, hN⟩ : ∃ N, B.length = N + 1 := ⟨B.length - 1, by omega⟩
  have hbs := bsg_any w (fun k => (B.getD k 0 : Int)) N g cap (by omega) (fun k hk => by
    have hx : B[k]? = some B[k] := List.getElem?_eq_getElem (by omega)
    rw [cell k _ hx]
    simp [List.getD, hx]) (fun i k hik hk => by
    rcases Nat.lt_or_ge i k with e | e
    · have hx : B[i]? = some B[i] := List.getElem?_eq_getElem (by omega)
      have hy : B[k]? = some B[k] := List.getElem?_eq_getElem (by omega)
      have := G.asc_lt hB.asc e hx hy
      simp only [List.getD, hx, hy, Option.getD_some]
      omega
    · obtain rfl : i = k := by omega
      exact Int.le_refl _) p
  rw [← hN] at hbs
  have HN : Hid (B.length = N + 1) := hN
  clear hN cell h
  go_enter Tryz.func72, Tryz.ntmps72
  go_wp2_with (go_at_call 93; refine hbs.mono ?_; rintro e w1 ⟨⟨i, h1, h2, h3, rfl⟩, rfl⟩)
  go_ret2
  have hn := HN.out
  refine ⟨⟨i, ⟨by omega, fun k x hk hx => ?_, fun k x hk hx => ?_⟩, ?_⟩, rfl⟩
  · have := h2 k hk
    simpa [List.getD, hx] using this
  · have := h3 k hk (by have := (List.getElem?_eq_some_iff.1 hx).1; omega)
    simpa [List.getD, hx] using this
  · refine ret_ib ?_
    unfold bsB seekB
    rcases Nat.lt_or_ge N i with e | e
    · rw [List.getElem?_eq_none (by omega)]
      simp
      omega
    · have hx : B[i]? = some B[i] := List.getElem?_eq_getElem (by omega)
      simp [hx, e]

/-- Behind what seek told: the next boundary. -/
theorem SeekIs.above {B : List Nat} {a : Int} {i : Nat} (h : SeekIs B a i) (hB : Bn B) : (seekB B i a = true → G.AboveIs B a (gotoR B ((i : Int) + 1))) ∧ (seekB B i a = false → G.AboveIs B a (gotoR B (i : Int))) := by
  refine ⟨fun hs => ?_, fun hs => ?_⟩
  · unfold seekB at hs
    cases hx : B[i]? with
    | none => rw [hx] at hs; cases hs
    | some x =>
      rw [hx] at hs
      have hxa : (x : Int) = a := by simpa using hs
      unfold gotoR
      rw [if_neg (by omega), show ((i : Int) + 1).toNat = i + 1 by omega]
      cases hy : B[i + 1]? with
      | none =>
        refine .inr ⟨fun j y hj => ?_, rfl⟩
        have hjl := (List.getElem?_eq_some_iff.1 hj).1
        have hil := List.getElem?_eq_none_iff.1 hy
        rcases Nat.lt_or_ge j i with e | e
        · have := h.2.1 j y e hj; omega
        · obtain rfl : j = i := by omega
          rw [hx] at hj
          simp only [Option.some.injEq] at hj
          omega
      | some y =>
        refine .inl ⟨i + 1, y, hy, ?_, fun j z hj hz => ?_, rfl⟩
        · have := G.asc_lt hB.asc (Nat.lt_succ_self i) hx hy
          omega
        · rcases Nat.lt_or_ge j i with e | e
          · have := h.2.1 j z e hz; omega
          · obtain rfl : j = i := by omega
            rw [hx] at hz
            simp only [Option.some.injEq] at hz
            omega
  · unfold gotoR
    rw [if_neg (by omega), Int.toNat_natCast]
    unfold seekB at hs
    cases hx : B[i]? with
    | none =>
      refine .inr ⟨fun j y hj => ?_, rfl⟩
      have hjl := (List.getElem?_eq_some_iff.1 hj).1
      have hil := List.getElem?_eq_none_iff.1 hx
      have := h.2.1 j y (by omega) hj
      omega
    | some x =>
      rw [hx] at hs
      have hxa : ¬ (x : Int) = a := by simpa using hs
      have h3 := h.2.2 i x (Nat.le_refl _) hx
      exact .inl ⟨i, x, hx, by omega, fun j z hj hz => by have := h.2.1 j z hj hz; omega, rfl⟩
theorem SeekIs.below {B : List Nat} {a : Int} {i : Nat} (h : SeekIs B a i) : G.BelowIs B a (gotoR B ((i : Int) - 1)) := by
  unfold gotoR
  by_cases h0 : i = 0
  · subst h0
    rw [if_pos (by omega)]
    exact .inr ⟨fun j y hj => h.2.2 j y (Nat.zero_le _) hj, rfl⟩
  · rw [if_neg (by omega), show ((i : Int) - 1).toNat = i - 1 by omega]
    have hx : B[i - 1]? = some (B[i - 1]'(by have := h.1; omega)) := List.getElem?_eq_getElem _
    generalize B[i - 1]'(by have := h.1; omega) = x at hx
    rw [hx]
    exact .inl ⟨i - 1, x, hx, h.2.1 _ x (by omega) hx, fun j y hj hy => h.2.2 j y (by omega) hy, rfl⟩
theorem SeekIs.isB {B : List Nat} {a : Int} {i : Nat} (h : SeekIs B a i) (hB : Bn B) : seekB B i a = Cs.isB B a := by
  rw [Bool.eq_iff_iff, isB_iff]
  unfold seekB
  constructor
  · intro hs
    cases hx : B[i]? with
    | none => rw [hx] at hs; cases hs
    | some x => rw [hx] at hs; exact ⟨x, List.mem_of_getElem? hx, by simpa using hs⟩
  · rintro ⟨x, hx, he⟩
    obtain ⟨j, hj⟩ := List.mem_iff_getElem?.1 hx
    have hij : i ≤ j := by
      rcases Nat.lt_or_ge j i with e | e
      · have := h.2.1 j x e hj; omega
      · exact e
    rcases Nat.lt_or_ge i j with e | e
    · have hy : B[i]? = some (B[i]'(by have := (List.getElem?_eq_some_iff.1 hj).1; omega)) := List.getElem?_eq_getElem _
      have h1 := h.2.2 i _ (Nat.le_refl _) hy
      have h2 := G.asc_lt hB.asc e hy hj
      omega
    · obtain rfl : i = j := by omega
      rw [hj]
      simpa using he

set_option maxRecDepth 100000 in
set_option maxHeartbeats 1000000 in
theorem pfollow_any (w : World) (c : Nat) (v : Value) (B : List Nat) (a : Nat) (h : Cu 131 w c v B a) (hB : Bn B) (p : Int) :
    Calls Tryz.prog 42 #[pv c, .int .i64 p] w fun e w' => ∃ r, G.AboveIs B p r ∧ MovesTo 131 w c v B a r e w' := by
  have hfew := hB.few
  have hs : Calls Tryz.prog 72 #[pv c, .int .i64 p] w fun e w' => (∃ (n : Int) (x : Bool), (0 ≤ n ∧ n ≤ 1001) ∧ (x = true → G.AboveIs B p (gotoR B (n + 1))) ∧ (x = false → G.AboveIs B p (gotoR B n)) ∧ e = .returned (.tuple #[.int .i64 n, .bool x])) ∧ w' = w := by
    refine (seek_any w c v B a h hB p).mono ?_
    rintro e w1 ⟨⟨i, hi, rfl⟩, rfl⟩
    have hil := hi.1
    exact ⟨⟨(i : Int), seekB B i p, by omega, (hi.above hB).1, (hi.above hB).2, rfl⟩, rfl⟩
  have hg : ∀ n, Calls Tryz.prog 71 #[pv c, .int .i64 n] w fun e w' => e = .returned (.int .i64 (gotoR B n)) ∧ Cu 131 w' c v B (G.stand a (gotoR B n)) ∧ Rf.Kept (fun k => k ≠ c) w w' := fun n => goTo_any w c v B a h hB n
  show Calls Tryz.prog 42 #[pv c, .int .i64 p] w fun e w' => ∃ r, G.AboveIs B p r ∧ e = .returned (.int .i64 r) ∧ Cu 131 w' c v B (G.stand a r) ∧ Rf.Kept (fun k => k ≠ c) w w'
  generalize gotoR B = gr at *
  clear h
  go_enter Tryz.func42, Tryz.ntmps42
  go_wp2_with fail
  refine hs.mono ?_
  rintro e w1 ⟨⟨n, x, ⟨hn1, hn2⟩, ht, hf, rfl⟩, rfl⟩
  have HI : Hid _ := And.intro ht hf
  clear ht hf hs
  cases x
  · go_wp2_with (go_at_call 71; refine (hg n).mono ?_; rintro e w2 ⟨rfl, h2, h3⟩)
    go_ret
    exact ⟨_, HI.out.2 (by first | rfl | trivial), rfl, h2, h3⟩
  · go_wp2_with (go_at_call 71; refine (hg (n + 1)).mono ?_; rintro e w2 ⟨rfl, h2, h3⟩)
    go_ret
    exact ⟨_, HI.out.1 (by first | rfl | trivial), rfl, h2, h3⟩
set_option maxRecDepth 100000 in
set_option maxHeartbeats 1000000 in
theorem ppreced_any (w : World) (c : Nat) (v : Value) (B : List Nat) (a : Nat) (h : Cu 131 w c v B a) (hB : Bn B) (p : Int) :
    Calls Tryz.prog 43 #[pv c, .int .i64 p] w fun e w' => ∃ r, G.BelowIs B p r ∧ MovesTo 131 w c v B a r e w' := by
  have hfew := hB.few
  go_enter Tryz.func43, Tryz.ntmps43
  go_wp2_with (first
    | (go_at_call 72; refine (seek_any w c v B a h hB p).mono ?_; rintro e w1 ⟨⟨i, hi, rfl⟩, rfl⟩; have hil := hi.1; have HI : Hid _ := hi.below; clear hi)
    | (go_at_call 71; refine (goTo_any _ c v B a h hB ((i : Int) - 1)).mono ?_; rintro e w2 ⟨rfl, h2, h3⟩))
  go_ret
  exact ⟨_, HI.out, rfl, h2, h3⟩
set_option maxRecDepth 100000 in
set_option maxHeartbeats 1000000 in
theorem pisB_any (w : World) (c : Nat) (v : Value) (B : List Nat) (a : Nat) (h : Cu 131 w c v B a) (hB : Bn B) (p : Int) :
    Calls Tryz.prog 41 #[pv c, .int .i64 p] w fun e w' => e = .returned (.bool (Cs.isB B p)) ∧ w' = w := by
  go_enter Tryz.func41, Tryz.ntmps41
  go_wp2_with (go_at_call 72; refine (seek_any w c v B a h hB p).mono ?_; rintro e w1 ⟨⟨i, hi, rfl⟩, rfl⟩)
  go_ret
  exact ⟨(congrArg (fun x => Ending.returned (Value.bool x)) (hi.isB hB)), rfl⟩
set_option maxRecDepth 100000 in
set_option maxHeartbeats 1000000 in
theorem pnext_any (w : World) (c : Nat) (v : Value) (B : List Nat) (a : Nat) (h : Cu 131 w c v B a) (hB : Bn B) :
    Calls Tryz.prog 33 #[pv c] w fun e w' => ∃ r, G.AboveIs B (a : Int) r ∧ MovesTo 131 w c v B a r e w' := by
  have c1 := Rf.cell_blk h.blk 1 (.int .i64 (a : Int)) rfl
  go_enter Tryz.func33, Tryz.ntmps33
  go_wp2_with (go_at_call 42; refine (pfollow_any w c v B a h hB (a : Int)).mono ?_; rintro e w2 ⟨r, hr, rfl, h2, h3⟩)
  go_ret
  exact ⟨r, hr, rfl, h2, h3⟩
set_option maxRecDepth 100000 in
set_option maxHeartbeats 1000000 in
theorem pprev_any (w : World) (c : Nat) (v : Value) (B : List Nat) (a : Nat) (h : Cu 131 w c v B a) (hB : Bn B) :
    Calls Tryz.prog 40 #[pv c] w fun e w' => ∃ r, G.BelowIs B (a : Int) r ∧ MovesTo 131 w c v B a r e w' := by
  have c1 := Rf.cell_blk h.blk 1 (.int .i64 (a : Int)) rfl
  go_enter Tryz.func40, Tryz.ntmps40
  go_wp2_with (go_at_call 43; refine (ppreced_any w c v B a h hB (a : Int)).mono ?_; rintro e w2 ⟨r, hr, rfl, h2, h3⟩)
  go_ret
  exact ⟨r, hr, rfl, h2, h3⟩
set_option maxRecDepth 100000 in
set_option maxHeartbeats 1000000 in
theorem pfirst_any (w : World) (c : Nat) (v : Value) (B : List Nat) (a : Nat) (h : Cu 131 w c v B a) (hB : Bn B) :
    Calls Tryz.prog 44 #[pv c] w fun e w' => MovesTo 131 w c v B a 0 e w' := by
  have hr : gotoR B 0 = 0 := by
    unfold gotoR
    rw [if_neg (by omega)]
    rw [show (0 : Int).toNat = 0 from rfl, hB.zero]
    rfl
  have hg := goTo_any w c v B a h hB 0
  rw [hr] at hg
  go_enter Tryz.func44, Tryz.ntmps44
  go_wp2_with (go_at_call 71; refine hg.mono ?_; rintro e w2 ⟨rfl, h2, h3⟩)
  go_ret
  exact ⟨rfl, h2, h3⟩
set_option maxRecDepth 100000 in
set_option maxHeartbeats 1000000 in
theorem plast_any (w : World) (c : Nat) (v : Value) (B : List Nat) (a z : Nat) (h : Cu 131 w c v B a) (hB : Bn B) (hz : B[B.length - 1]? = some z) :
    Calls Tryz.prog 38 #[pv c] w fun e w' => MovesTo 131 w c v B a (z : Int) e w' := by
  have hpos := hB.pos
  have hfew := hB.few
  have hr : gotoR B ((B.length : Int) - 1) = (z : Int) := by
    unfold gotoR
    rw [if_neg (by omega), show ((B.length : Int) - 1).toNat = B.length - 1 by omega, hz]
  have hg := goTo_any w c v B a h hB ((B.length : Int) - 1)
  rw [hr] at hg
  obtain ⟨g, cap, rfl, hgc, cell⟩ := h.cells hpos
  have c0 := Rf.cell_blk h.blk 0 (.slice (some ⟨g, 0, none⟩) B.length cap) rfl
  clear cell hr
  go_enter Tryz.func38, Tryz.ntmps38
  go_wp2_with (go_at_call 71; refine hg.mono ?_; rintro e w2 ⟨rfl, h2, h3⟩)
  go_ret
  exact ⟨rfl, h2, h3⟩
set_option maxRecDepth 100000 in
theorem pcur_any (w : World) (c : Nat) (v : Value) (B : List Nat) (a : Nat) (h : Cu 131 w c v B a) :
    Calls Tryz.prog 32 #[pv c] w fun e w' => e = .returned (.int .i64 (a : Int)) ∧ w' = w := by
  have c1 := Rf.cell_blk h.blk 1 (.int .i64 (a : Int)) rfl
  go_enter Tryz.func32, Tryz.ntmps32
  go_wp2
  go_ret
  exact ⟨rfl, rfl⟩

end Pr
end Go.Proofs.YtpgcidpghmoibaaGreatDoor

namespace Go.Proofs.YtpgcidpghmoibaaGreatDoor
namespace Pr
open Go.RowKit
open Cs
open G (PNode)

set_option maxRecDepth 100000 in
set_option maxHeartbeats 1000000 in
theorem pover_long (w : World) (b : Nat) (s : ByteArray) (hs : 1000 < s.size) (hm : s.size ≤ maxLen) :
    Calls Tryz.prog 31 #[pv b, .string s] w fun e w' => e = .returned (.tuple #[.pointer none, .int .i64 1]) ∧ w' = w := by
  go_enter Tryz.func31, Tryz.ntmps31
  go_wp2_with (go_at_call 27; refine (pcut_long w b s hs hm).mono ?_; rintro e w2 ⟨rfl, rfl⟩)
  go_ret2
  exact ⟨rfl, rfl⟩

set_option maxRecDepth 100000 in
set_option maxHeartbeats 2000000 in
theorem pover_short (w : World) (b m : Nat) (I : Nat → Prop) (v : Value) (V : List Value) (T : List PNode) (Q : List Nat) (P : List Pl) (f : PB) (hP : PIn w b m I v V T Q P f) (s : ByteArray) (hs : s.size ≤ 1000) :
    Calls Tryz.prog 31 #[pv b, .string s] w fun e w' => (∃ c v l, e = .returned (.tuple #[pv c, .int .i64 0]) ∧ G.CutR T Q s 0 l ∧ Cu 131 w' c v (G.bnds 0 l) 0 ∧ w.heap.size ≤ c ∧ (∀ k, v.ownBlock = some k → w.heap.size ≤ k)) ∧ Below w.heap.size w w' := by
  obtain ⟨i0, hi, hz0, hz1, hz2⟩ := info_parts infoInt
  have hul := U.units_length s
  go_enter Tryz.func31, Tryz.ntmps31
  go_wp2_with (go_at_call 27; refine (pcut_short w b m I v V T Q P f hP s hs).mono ?_; rintro e w2 ⟨⟨v2, l, rfl, hcut, ho⟩, hb2⟩; obtain ⟨a2, d2, hv2⟩ := Rf.own_len ho; subst hv2)
  have z2 := hb2.size
  have o2 := Rf.own_zero ho
  have hfew := Rf.cut_few hcut
  rw [G.us_len] at hfew
  have hr0 := Rf.own_new w2 w2.heap.size 3 1 1 #[.int .i64 0] (Nat.le_refl _) rfl (by unfold maxLen; omega)
  go_loopw [8, 23] (fun vb vi wr => ∃ k : Nat, vi = .int .i64 k ∧ k ≤ l.length ∧ wr.ownsRow w2.heap.size 3 1 vb (k + 1) (bV (G.bnds 0 (l.take k))) ∧ Below w2.heap.size w2 wr) (fun _ vi _ => l.length - (intOf vi).toNat)
  case atStart => exact ⟨0, rfl, Nat.zero_le _, hr0, (Below.refl _ _).alloc (Nat.le_refl _) _⟩
  case round =>
    obtain ⟨k, rfl, hk, hrow, hbr⟩ := hrel
    have zr := hbr.size
    by_cases hlt : k < l.length
    · have hx : l[k]? = some l[k] := List.getElem?_eq_getElem hlt
      generalize l[k] = x at hx
      obtain ⟨g1, rfl, cs⟩ := Rf.seg_to o2 hx hlt
      obtain ⟨e0, e1, e2⟩ := cs wr hbr
      have HS : Hid _ := Rf.bnds_snoc 0 l k x hx
      obtain ⟨va, vc, hve⟩ := Rf.own_len hrow
      subst hve
      have HB : Hid _ := And.intro hbr hrow
      clear cs hbr hr0
      go_wp2_with
        (at_builtin
         refine wpList_append_own_at _ rfl (.tmp 27) (.tmp 30) 33 rfl w2.heap.size 3 i0 (.int .i64 0) 1 8 Tryz.underlying33 hi hz0 hz1 hz2 rfl (by decide) _ (k + 1) (bV (G.bnds 0 (l.take k))) rfl ((hrow.alloc _).alloc _) ⟨wr.heap.size + 1, 0, none⟩ 1 1 [.int .i64 (x.t : Int)] rfl rfl (World.news_of_block (cs := #[.int .i64 (x.t : Int)]) (t := 3) (fr := (0, 0)) (by have := heap_alloc_new (wr.alloc (.cells #[.int .i64 (x.f : Int), .int .i64 (x.t : Int), .int .i64 x.r] 65)) (.cells #[.int .i64 (x.t : Int)] 3); simpa using this)) (fun y hy => by simp at hy; subst hy; rfl) (by unfold maxLen; omega) (by omega) (by simp; omega) ?_
         intro v5 w5 hn5 hg5 _ hat5)
      have hfin : w5.ownsRow w2.heap.size 3 1 v5 (k + 1 + 1) (bV (G.bnds 0 (l.take (k + 1)))) := by rw [HS.out, bV_snoc]; exact hn5
      have hb5 : Below w2.heap.size w2 w5 := Below.grown ((HB.out.1.alloc (by omega) _).alloc (by simp; omega) _) hg5 (by simp; omega) (fun i e => (HB.out.2.lt i e).1)
      go_roundw
      case rel => exact ⟨k + 1, by go_num, by omega, hfin, hb5⟩
      case measure => simp [intOf]; omega
    · obtain rfl : k = l.length := by omega
      obtain ⟨va, vc, hve⟩ := Rf.own_len hrow
      subst hve
      rw [List.take_length] at hrow
      clear hr0
      go_wp2
      go_ret2
      refine ⟨⟨wr.heap.size, .slice va (l.length + 1) vc, l, rfl, hcut, ⟨heap_alloc_new wr _, ?_, fun e => by have := (hrow.lt _ e).2; omega⟩, by omega, fun j e => by have := (hrow.lt j e).1; omega⟩, (hb2.trans (hbr.mono z2)).alloc (by omega) _⟩
      rw [G.bnds_len]
      exact Rf.own_same (Rf.own_zero hrow) (fun j e => Below.heap_alloc _ _ _ (hrow.lt j e).2)

end Pr
end Go.Proofs.YtpgcidpghmoibaaGreatDoor
