/-
  THE WALK of the book's matches: Match and Cut are told right, and Cut's lists are kept: it answers true. Conditions: a book, rules of both sides, a bound on how many lists were kept.
-/
import Derived.Test.YtpgcidpghmoibaaGreatDoorJ45
import Derived.Test.YtpgcidpghmoibaaGreatDoorJ27
import Derived.Deep.QuietTactic
import Derived.BigQuiet
namespace Go.Proofs.YtpgcidpghmoibaaGreatDoor
namespace Pr
open Go.RowKit
open G (PNode)

theorem cut_few {T : List PNode} {Q : List Nat} {s : ByteArray} {k : Nat} {l : List G.Seg} (h : G.CutR T Q s k l) : l.length + k ≤ (G.us s).length := by
  induction h with
  | done h => simp [h]
  | cons h1 h2 h3 ih =>
    simp only [List.length_cons]
    omega
theorem seg_cells {w : World} {la : Option Addr} {n lc : Nat} {l : List G.Seg} (h : w.ownsRow 0 65 3 (.slice la n lc) n (Rf.segs l)) {k : Nat} {x : G.Seg} (hx : l[k]? = some x) (hk : k < n) :
    ∃ g, la = some ⟨g, 0, none⟩ ∧ ∀ wr, Below w.heap.size w wr → wr.cell? ⟨g, k * 3, none⟩ = some (.int .i64 (x.f : Int)) ∧ wr.cell? ⟨g, k * 3 + 1, none⟩ = some (.int .i64 (x.t : Int)) ∧ wr.cell? ⟨g, k * 3 + 2, none⟩ = some (.int .i64 x.r) := by
  obtain ⟨g, cap, hv, _, hlt⟩ := h.form (by omega)
  simp only [Value.slice.injEq] at hv
  obtain ⟨rfl, _, rfl⟩ := hv
  refine ⟨g, rfl, fun wr hb => ?_⟩
  have key : ∀ o u, o < 3 → (Rf.scell3 x)[o]? = some u → wr.cell? ⟨g, k * 3 + o, none⟩ = some u := by
    intro o u ho hu
    rw [hb.cell (p := ⟨g, k * 3 + o, none⟩) hlt, h.cellAt _ (by omega)]
    rw [← hu]
    exact Rf.flat_get Rf.scell3 3 (fun _ => rfl) l k o x hx ho
  exact ⟨key 0 _ (by omega) rfl, key 1 _ (by omega) rfl, key 2 _ (by omega) rfl⟩

set_option maxRecDepth 100000 in
set_option maxHeartbeats 2000000 in
theorem matches_any (w : World) (b q : Nat) (T : List PNode) (Q : List Nat) (x N : Nat) (hA : Asked w b q T Q x N) (c : Nat) (hB : Book w x (fun k => k = x ∨ N ≤ k) c) (hc : c ≤ 99999990) (s : ByteArray) (a : Int) (hm : s.size ≤ maxLen) :
    Calls Tryz.prog 21 #[pv x, pv b, pv q, .string s, .int .i64 a] w fun e w' => e = .returned (.bool true) ∧ Book w' x (fun k => k = x ∨ N ≤ k) (c + 2) ∧ Kept (fun k => k < N ∧ k ≠ x) w w' := by
  have HB0 : Hid (Book w x (fun k => (k = x ∨ N ≤ k) ∧ k < w.heap.size) c) := hB.mono (fun k hk h => ⟨h, hk⟩)
  have HA0 : Hid (Asked w b q T Q x N) := hA
  have HLE : Hid (N ≤ w.heap.size) := hA.le
  clear hB hA
  go_enter Tryz.func21, Tryz.ntmps21
  go_wp2_with fail
  refine (pm_all HA0.out s a hm).mono ?_
  rintro e w1 ⟨⟨x1, x2, x3, n1, rfl, m1⟩, hb1⟩
  have HA1 : Hid (Asked w1 b q T Q x N) := HA0.out.below hb1
  have HB1 : Hid (Book w1 x (fun k => (k = x ∨ N ≤ k) ∧ k < w.heap.size) c) := HB0.out.below hb1
  have HM1 : Hid (MOut T Q s a x1 x2 x3 n1) := m1
  clear m1
  have z1 := hb1.size
  have HX1 : Hid _ := heap_alloc_new w1 (.cells #[.int .i64 x1, .int .i64 x2, .int .i64 x3] 65)
  go_wp2_with fail
  refine (rm_all (HA1.out.below ((Below.refl _ _).alloc (Nat.le_refl _) _)) s a hm).mono ?_
  rintro e w2 ⟨⟨y1, y2, y3, n2, rfl, m2⟩, hb2⟩
  obtain ⟨rfl, rfl, rfl, rfl⟩ := HM1.out.one m2
  have hbA : Below w1.heap.size w1 (w1.alloc (.cells #[.int .i64 y1, .int .i64 y2, .int .i64 y3] 65)) := (Below.refl _ _).alloc (Nat.le_refl _) _
  have hb2' : Below w1.heap.size w1 w2 := hbA.trans (hb2.mono hbA.size)
  have HA2 : Hid (Asked w2 b q T Q x N) := HA1.out.below hb2'
  have HB2 : Hid (Book w2 x (fun k => (k = x ∨ N ≤ k) ∧ k < w.heap.size) c) := HB1.out.below hb2'
  have zx : w1.heap.size < w2.heap.size := by have := hb2.size; simp at this; omega
  have hx2 := (hb2.block w1.heap.size (by simp)).trans HX1.out
  have f0 := cell_blk hx2 0 (.int .i64 y1) rfl
  have f1 := cell_blk hx2 1 (.int .i64 y2) rfl
  have f2 := cell_blk hx2 2 (.int .i64 y3) rfl
  have heq : ∀ W : World, (Op.equalIn 10000 65 (.agg #[.int .i64 y1, .int .i64 y2, .int .i64 y3]) (.agg #[.int .i64 y1, .int .i64 y2, .int .i64 y3])).run Tryz.prog W = .ok true W := fun W => by rw [eqSeg]; simp
  clear m2 HX1 hx2 HA0 HB0 HA1 HB1 HM1
  go_wp2_with (go_at_call 35; refine (lnum_any _ _).mono ?_; rintro e w9 ⟨rfl, rfl⟩)
  have hbC : Below w2.heap.size w2 (w2.alloc (.cells #[.int .i64 y1, .int .i64 y2, .int .i64 y3] 65)) := (Below.refl _ _).alloc (Nat.le_refl _) _
  have HA3 : Hid (Asked (w2.alloc (.cells #[.int .i64 y1, .int .i64 y2, .int .i64 y3] 65)) b q T Q x N) := HA2.out.below hbC
  have HB3 : Hid (Book (w2.alloc (.cells #[.int .i64 y1, .int .i64 y2, .int .i64 y3] 65)) x (fun k => (k = x ∨ N ≤ k) ∧ k < w.heap.size) c) := HB2.out.below hbC
  have hb3 : Below w.heap.size w (w2.alloc (.cells #[.int .i64 y1, .int .i64 y2, .int .i64 y3] 65)) := (hb1.trans (hb2'.mono z1)).trans (hbC.mono (by omega))
  generalize w2.alloc (.cells #[.int .i64 y1, .int .i64 y2, .int .i64 y3] 65) = w3 at HA3 HB3 hb3 ⊢
  clear f0 f1 f2 heq zx hbC hb2 hbA hb2' HA2 HB2 z1 hb1
  have z3 := hb3.size
  refine (pc_all HA3.out s hm).mono ?_
  rintro e w4 ⟨⟨v4, l, n4, rfl, c4, o4⟩, hb4⟩
  have z4 := hb4.size
  have HA4 : Hid (Asked w4 b q T Q x N) := HA3.out.below hb4
  have HB4 : Hid (Book w4 x (fun k => (k = x ∨ N ≤ k) ∧ k < w.heap.size) c) := HB3.out.below hb4
  go_wp2_with fail
  refine (pc_all HA4.out s hm).mono ?_
  rintro e w5 ⟨⟨v5, l5, n5, rfl, c5, o5⟩, hb5⟩
  obtain ⟨rfl, rfl⟩ := c4.one c5
  have z5 := hb5.size
  have HA5 : Hid (Asked w5 b q T Q x N) := HA4.out.below hb5
  have HB5 : Hid (Book w5 x (fun k => (k = x ∨ N ≤ k) ∧ k < w.heap.size) c) := HB4.out.below hb5
  go_wp2_with fail
  refine (rc_all HA5.out s hm).mono ?_
  rintro e w6 ⟨⟨v6, l6, n6, rfl, c6, o6⟩, hb6⟩
  obtain ⟨rfl, rfl⟩ := c4.one c6
  have z6 := hb6.size
  have HB6 : Hid (Book w6 x (fun k => (k = x ∨ N ≤ k) ∧ k < w.heap.size) c) := HB5.out.below hb6
  have q4 : ∀ k, v4.ownBlock = some k → w.heap.size ≤ k ∧ k < w4.heap.size := fun k e => by have := o4.lt k e; omega
  have q5 : ∀ k, v5.ownBlock = some k → w4.heap.size ≤ k ∧ k < w5.heap.size := fun k e => by have := o5.lt k e; omega
  have o4 := own_belowAll (own_belowAll (own_zero o4) hb5) hb6
  have o5 := own_belowAll (own_zero o5) hb6
  have o6 := own_zero o6
  have hb36 : Below w.heap.size w w6 := ((hb3.trans (hb4.mono z3)).trans (hb5.mono (by omega))).trans (hb6.mono (by omega))
  have hlm : l6.length ≤ 1000 := by
    rcases c4 with ⟨_, rfl, _⟩ | ⟨h1, h2, _⟩
    · simp
    · have := cut_few h2; have := U.units_length s; rw [G.us_len] at *; omega
  obtain ⟨a4, d4, rfl⟩ := own_len' o4
  obtain ⟨a5, d5, rfl⟩ := own_len' o5
  obtain ⟨a6, d6, rfl⟩ := own_len' o6
  obtain ⟨n, hn⟩ : ∃ n, l6.length = n := ⟨_, rfl⟩
  rw [hn] at o4 o5 o6 q4 q5 hlm ⊢
  have HN : Hid (l6.length = n) := hn
  have HO : Hid (w6.ownsRow 0 65 3 (.slice a4 n d4) n (Rf.segs l6) ∧ w6.ownsRow 0 65 3 (.slice a5 n d5) n (Rf.segs l6) ∧ w6.ownsRow 0 65 3 (.slice a6 n d6) n (Rf.segs l6)) := ⟨o4, o5, o6⟩
  have HQ4 : Hid _ := q4
  have HQ5 : Hid _ := q5
  clear c4 c5 c6 hn o4 o5 o6 q4 q5 HA3 HA4 HA5 HB3 HB4 HB5 hb4 hb5 hb6 hb3
  go_wp2_with (go_at_call 35; refine (lnum_any _ _).mono ?_; rintro e w9 ⟨rfl, rfl⟩)
  go_loopw [19, 20] (fun sm i wr => ∃ k : Nat, k ≤ n ∧ sm = .bool true ∧ i = .int .i64 k ∧ Below w9.heap.size w9 wr) (fun _ i _ => n - (intOf i).toNat)
  case atStart => exact ⟨0, Nat.zero_le _, rfl, rfl, Below.refl _ _⟩
  case round =>
    obtain ⟨k, hk, rfl, rfl, hbr⟩ := hrel
    by_cases hlt : k < n
    · have hkL : k < l6.length := by rw [HN.out]; exact hlt
      obtain ⟨u, hu⟩ : ∃ u, l6[k]? = some u := ⟨l6[k], by simp [hkL]⟩
      obtain ⟨g4, rfl, h4⟩ := seg_cells HO.out.1 hu hlt
      obtain ⟨g5, rfl, h5⟩ := seg_cells HO.out.2.1 hu hlt
      obtain ⟨g6, rfl, h6⟩ := seg_cells HO.out.2.2 hu hlt
      obtain ⟨r40, r41, r42⟩ := h4 wr hbr
      obtain ⟨r50, r51, r52⟩ := h5 wr hbr
      obtain ⟨r60, r61, r62⟩ := h6 wr hbr
      have hki : (k : Int) < (n : Int) := by omega
      have hk0 : (0 : Int) ≤ (k : Int) := by omega
      have heq : ∀ W : World, (Op.equalIn 10000 65 (.agg #[.int .i64 (u.f : Int), .int .i64 (u.t : Int), .int .i64 u.r]) (.agg #[.int .i64 (u.f : Int), .int .i64 (u.t : Int), .int .i64 u.r])).run Tryz.prog W = .ok true W := fun W => by rw [eqSeg]; simp
      clear h4 h5 h6 hu
      go_wp2
      go_quiet (fail)
      go_wp2
      go_roundw
      case rel => exact ⟨k + 1, by omega, by simp, by go_num, below_drewN hbr _⟩
      case measure => simp [intOf]; omega
    · obtain rfl : k = n := by omega
      have o4 := own_belowAll HO.out.1 hbr
      have o5 := own_belowAll HO.out.2.1 hbr
      have B7 : Book wr x (fun k => (k = x ∨ N ≤ k) ∧ k < w.heap.size) c := HB6.out.below hbr
      have q4 := HQ4.out
      have q5 := HQ5.out
      have zr := hbr.size
      have h36 : Below w.heap.size w wr := hb36.trans (hbr.mono (by omega))
      have HBr : Hid (Below w.heap.size w wr) := h36
      clear HQ4 HQ5 HO HB6 hb36 hbr h36
      go_wp2_with fail
      generalize (Value.slice a4 k d4) = v4 at *
      generalize (Value.slice a5 k d5) = v5 at *
      refine (keepSegs_any wr x _ c k v4 _ B7 (by omega) o4 (by omega) (fun j e h => by have := q4 j e; omega)).mono ?_
      rintro r w7 ⟨rfl, B8, K8⟩
      have s8 := K8.size
      have o5 := own_kept o5 K8 (fun j e => ⟨fun h => by have := q5 j e; omega, fun h => by have := q5 j e; have := q4 j h; omega⟩)
      go_wp2_with fail
      refine (keepSegs_any w7 x _ (c + 1) k v5 _ B8 (by omega) o5 (by omega) (fun j e h => by
        have := q5 j e
        rcases h with h | h | h
        · omega
        · have := q4 j h; omega
        · omega)).mono ?_
      rintro r w8 ⟨rfl, B9, K9⟩
      go_wp2
      go_ret
      have hle := HLE.out
      refine ⟨rfl, B9.mono (fun j _ h => ?_), ?_⟩
      · rcases h with (h | h | h) | h | h
        · exact h.1
        · have := q4 j h; exact .inr (by omega)
        · exact .inr (by omega)
        · have := q5 j h; exact .inr (by omega)
        · exact .inr (by omega)
      · have hb := HBr.out
        refine ⟨(K9.os.trans K8.os).trans hb.os, (K9.tape.trans K8.tape).trans hb.tape, (K9.output.trans K8.output).trans hb.output, by have := K9.size; have := hb.size; omega, fun j hj hp => ?_⟩
        have n4 : v4.ownBlock ≠ some j := fun h => by have := q4 j h; omega
        have n5 : v5.ownBlock ≠ some j := fun h => by have := q5 j h; omega
        have nS : ¬ ((j = x ∨ N ≤ j) ∧ j < w.heap.size) := fun h => by have := hp.1; rcases h.1 with e | e; exact hp.2 e; omega
        have m8 : ¬ (((j = x ∨ N ≤ j) ∧ j < w.heap.size) ∨ v4.ownBlock = some j ∨ wr.heap.size ≤ j) := by
          rintro (h | h | h)
          · exact nS h
          · exact n4 h
          · omega
        exact ((K9.block j (by omega) ⟨m8, n5⟩).trans (K8.block j (by omega) ⟨nS, n4⟩)).trans (hb.block j hj)
end Pr
end Go.Proofs.YtpgcidpghmoibaaGreatDoor
