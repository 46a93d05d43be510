/-
  THE PROGRAM's READER: the walk of part: a range of a set, or an error and its place. Conditions: the source has at most 2000 bytes, the place lies in it; the library's tables lie in memory as the text lays them.
  THE PROGRAM's READER: the walk of set: what the form says of a set, as a tree. Conditions: the reader stands at the set's beginning.
-/
import Derived.Test.YtpgcidpghmoibaaGreatDoorK38
namespace Go.Proofs.YtpgcidpghmoibaaGreatDoor
namespace Pr
open Go.RowKit Go.Maps
open Rf (Kept)
open G (PNode)
inductive PRes where
  | ok (a z j : Nat)
  | err (e p : Nat)
def partR (s : ByteArray) (i : Nat) : PRes := match G.chr s 93 45 i with
  | none => .err 2 i
  | some (a, j) => if G.pk s j = 45 then (match G.chr s 93 45 (j + 1) with
      | none => .err 2 (j + 1)
      | some (z, k) => if z < a then .err 4 i else .ok a z k) else .ok a a j
def PartPost (w : World) (b : Nat) (s : ByteArray) (c : C) (m vR : Value) (r : PRes) (e : Ending) (w' : World) : Prop :=
  Gr b w w' ∧ match r with
    | .ok a z j => e = .returned (.tuple #[.agg #[.int .i32 (a : Int), .int .i32 (z : Int)], .bool true]) ∧ RB w' b s { c with i := j } m vR
    | .err er p => ∃ x y : Int, ∃ i' d' : Nat, e = .returned (.tuple #[.agg #[.int .i32 x, .int .i32 y], .bool false]) ∧ RB w' b s ⟨i', d', p, er⟩ m vR
theorem res_two {W : World} {B : Nat} {t : TypeId} {x y : Value} (h : W.heap[B]? = some (.cells #[.int .i32 0, .int .i32 0] t (0, 0))) :
    (W.setCell ⟨B, 0, none⟩ x).cell? ⟨B, 0, none⟩ = some x ∧ ((W.setCell ⟨B, 0, none⟩ x).setCell ⟨B, 1, none⟩ y).cell? ⟨B, 1, none⟩ = some y :=
  ⟨Rf.cell_blk (Rf.blk_set h _ _) 0 _ rfl, Rf.cell_blk (Rf.blk_set (Rf.blk_set h _ _) _ _) 1 _ rfl⟩
theorem fin_two {w W : World} {b : Nat} {s : ByteArray} {c : C} {m vR x y : Value} (hG : Gr b w W) (hR : RB W b s c m vR) (hb : b < w.heap.size) :
    Gr b w ((W.setCell ⟨w.heap.size, 0, none⟩ x).setCell ⟨w.heap.size, 1, none⟩ y) ∧ RB ((W.setCell ⟨w.heap.size, 0, none⟩ x).setCell ⟨w.heap.size, 1, none⟩ y) b s c m vR := by
  refine ⟨Kept.setNew (Kept.setNew hG (q := ⟨w.heap.size, 0, none⟩) (Nat.le_refl _) _) (q := ⟨w.heap.size, 1, none⟩) (Nat.le_refl _) _, ?_⟩
  show _ = _
  rw [Rf.blk_ne _ (by omega), Rf.blk_ne _ (by omega)]
  exact hR
theorem blk_res {w W : World} {b : Nat} {o : Obj} (hg : Gr b (w.alloc o) W) (hb : b < w.heap.size) : W.heap[w.heap.size]? = some o :=
  (hg.block w.heap.size (by simp) (by omega)).trans (heap_alloc_new w o)
theorem cells_res {W : World} {B : Nat} {t : TypeId} (h : W.heap[B]? = some (.cells #[.int .i32 0, .int .i32 0] t (0, 0))) : (∀ i, W.frozen? ⟨B, i, none⟩ = false) ∧ W.cell? ⟨B, 0, none⟩ = some (.int .i32 0) ∧ W.cell? ⟨B, 1, none⟩ = some (.int .i32 0) :=
  ⟨Rf.free_blk h, Rf.cell_blk h 0 _ rfl, Rf.cell_blk h 1 _ rfl⟩
set_option maxRecDepth 100000 in
set_option maxHeartbeats 2000000 in
theorem part_any (w : World) (b : Nat) (s : ByteArray) (c : C) (m vR : Value) (hR : RB w b s c m vR) (hs : s.size ≤ 2000) (hi : c.i ≤ s.size) (hT : Tabs w) (hO : Own b) :
    Calls Tryz.prog 163 #[.pointer (some ⟨b, 0, none⟩)] w fun e w' => PartPost w b s c m vR (partR s c.i) e w' := by
  have hb0 := hR.lt
  have hR0 := hR.below (below_made w (.cells #[.int .i32 0, .int .i32 0] 197))
  have hT0 := hT.below (below_made w (.cells #[.int .i32 0, .int .i32 0] 197))
  have hbk := heap_alloc_new w (.cells #[.int .i32 0, .int .i32 0] 197)
  have hG0 : Gr b w (w.alloc (.cells #[.int .i32 0, .int .i32 0] 197)) := Gr.below (below_made w _)
  obtain ⟨c0, c1, c2, c3, c4, c5, c6, fr⟩ := hR0.reads
  have hC := char_any _ b s c m vR ⟨#[93, 45]⟩ 93 45 (.inr ⟨rfl, rfl, rfl⟩) hR0 hs hi hT0
  have HG0 : Hid _ := And.intro hG0 hbk
  clear hG0 hbk hR0 hT0
  unfold partR
  cases hc : G.chr s 93 45 c.i with
  | none =>
    rw [hc] at hC
    simp only
    clear hc
    go_enter Tryz.func163, Tryz.ntmps163
    go_wp2_with (first
      | (go_at_call 162; refine (one_any w1 0).mono ?_; rintro e w2 ⟨rfl, hb2⟩; have HGW : Hid _ := Kept.trans hg1 (Gr.below hb2); obtain ⟨f0, g0, g1⟩ := cells_res (W := w2) (blk_res HGW.out hb0))
      | (go_at_call 160; refine hC.mono ?_; rintro e w1 ⟨hg1, rfl, hR1⟩))
    obtain ⟨s0, s1⟩ := res_two (x := .int .i32 0) (y := .int .i32 0) (blk_res HGW.out hb0)
    refine bodyPost_ret (by simp [results, Tryz.results163, go_sem, s0, s1]; try rfl) rfl ?_
    obtain ⟨q1, q2⟩ := fin_two (x := .int .i32 0) (y := .int .i32 0) (HG0.out.1.trans HGW.out) (hR1.below hb2) hb0
    exact ⟨q1, 0, 0, _, _, rfl, q2⟩
  | some q =>
    obtain ⟨a, j⟩ := q
    have hbd := G.chr_bd hc
    rw [hc] at hC
    simp only
    clear hc
    have hab : a ≤ 1114111 := hbd.2.2
    by_cases h45 : G.pk s j = 45
    · rw [if_pos h45]
      have hlt := G.lt_of_pk (s := s) (i := j) (by omega)
      have hpv : pkV s j = 45 := (pkV_eq (by omega)).2 h45
      have hPk : ∀ w1, RB w1 b s { c with i := j } m vR → _ := fun w1 hR1 => peek_any w1 b s _ m vR hR1 hs hbd.2.1
      have hC2 : ∀ w2, RB w2 b s { c with i := j + 1 } m vR → Tabs w2 → _ := fun w2 hR2 hT2 => char_any w2 b s _ m vR ⟨#[93, 45]⟩ 93 45 (.inr ⟨rfl, rfl, rfl⟩) hR2 hs hlt hT2
      simp only [hpv] at hPk
      have HT0 : Hid (Tabs (w.alloc (.cells #[.int .i32 0, .int .i32 0] 197))) := hT.below (below_made w _)
      clear h45 hpv
      cases hc2 : G.chr s 93 45 (j + 1) with
      | none =>
        simp only [hc2] at hC2 ⊢
        clear hc2
        go_enter Tryz.func163, Tryz.ntmps163
        go_wp2_with (first
          | (go_at_call 160; refine hC3.mono ?_; rintro e w3 ⟨hg3, rfl, hR3⟩; have HGW : Hid _ := Kept.trans (Gr.set (hg1.trans (Kept.drewN (Kept.refl _ w1) n)) 1 (.int .i64 ((j : Int) + 1))) hg3; obtain ⟨f0, g0, g1⟩ := cells_res (W := w3) (blk_res HGW.out hb0))
          | (go_at_call 98; refine (hPk w1 hR1).mono ?_; rintro e w2 ⟨rfl, n, rfl⟩; have hC3 := hC2 ((w1.drewN n).setCell ⟨b, 1, none⟩ (.int .i64 ((j : Int) + 1))) (hR1.drewN n).inc (HT0.out.gr (Gr.set (hg1.trans (Kept.drewN (Kept.refl _ w1) n)) 1 (.int .i64 ((j : Int) + 1))) hO))
          | (go_at_call 160; refine hC.mono ?_; rintro e w1 ⟨hg1, rfl, hR1⟩; clear c0 c1 c2 c3 c4 c5 c6 fr; obtain ⟨c0, c1, c2, c3, c4, c5, c6, fr⟩ := hR1.reads))
        obtain ⟨s0, s1⟩ := res_two (x := .int .i32 (a : Int)) (y := .int .i32 0) (blk_res HGW.out hb0)
        refine bodyPost_ret (by simp [results, Tryz.results163, go_sem, s0, s1]; try rfl) rfl ?_
        obtain ⟨q1, q2⟩ := fin_two (x := .int .i32 (a : Int)) (y := .int .i32 0) (HG0.out.1.trans HGW.out) hR3 hb0
        exact ⟨q1, (a : Int), 0, _, _, rfl, q2⟩
      | some q2 =>
        obtain ⟨z, k⟩ := q2
        have hbd2 := G.chr_bd hc2
        simp only [hc2] at hC2 ⊢
        clear hc2
        have hzb : z ≤ 1114111 := hbd2.2.2
        by_cases hza : z < a
        · rw [if_pos hza]
          have hza' : (z : Int) < (a : Int) := by omega
          go_enter Tryz.func163, Tryz.ntmps163
          go_wp2_with (first
            | (go_at_call 127; refine (fail_any w3 b s _ m vR c.i 4 hR3).mono ?_; rintro e w4 ⟨rfl, hR4, hE4⟩; have HGW : Hid _ := Kept.trans (Kept.trans (Gr.set (hg1.trans (Kept.drewN (Kept.refl _ w1) n)) 1 (.int .i64 ((j : Int) + 1))) hg3) hE4.kept; obtain ⟨f0, g0, g1⟩ := cells_res (W := w4) (blk_res HGW.out hb0))
            | (go_at_call 160; refine hC3.mono ?_; rintro e w3 ⟨hg3, rfl, hR3⟩)
            | (go_at_call 98; refine (hPk w1 hR1).mono ?_; rintro e w2 ⟨rfl, n, rfl⟩; have hC3 := hC2 ((w1.drewN n).setCell ⟨b, 1, none⟩ (.int .i64 ((j : Int) + 1))) (hR1.drewN n).inc (HT0.out.gr (Gr.set (hg1.trans (Kept.drewN (Kept.refl _ w1) n)) 1 (.int .i64 ((j : Int) + 1))) hO))
            | (go_at_call 160; refine hC.mono ?_; rintro e w1 ⟨hg1, rfl, hR1⟩; clear c0 c1 c2 c3 c4 c5 c6 fr; obtain ⟨c0, c1, c2, c3, c4, c5, c6, fr⟩ := hR1.reads))
          obtain ⟨s0, s1⟩ := res_two (x := .int .i32 (a : Int)) (y := .int .i32 (z : Int)) (blk_res HGW.out hb0)
          refine bodyPost_ret (by simp [results, Tryz.results163, go_sem, s0, s1]; try rfl) rfl ?_
          obtain ⟨q1, q2⟩ := fin_two (x := .int .i32 (a : Int)) (y := .int .i32 (z : Int)) (HG0.out.1.trans HGW.out) hR4 hb0
          exact ⟨q1, (a : Int), (z : Int), _, _, rfl, q2⟩
        · rw [if_neg hza]
          have hza' : ¬ (z : Int) < (a : Int) := by omega
          go_enter Tryz.func163, Tryz.ntmps163
          go_wp2_with (first
            | (go_at_call 160; refine hC3.mono ?_; rintro e w3 ⟨hg3, rfl, hR3⟩; have HGW : Hid _ := Kept.trans (Gr.set (hg1.trans (Kept.drewN (Kept.refl _ w1) n)) 1 (.int .i64 ((j : Int) + 1))) hg3; obtain ⟨f0, g0, g1⟩ := cells_res (W := w3) (blk_res HGW.out hb0))
            | (go_at_call 98; refine (hPk w1 hR1).mono ?_; rintro e w2 ⟨rfl, n, rfl⟩; have hC3 := hC2 ((w1.drewN n).setCell ⟨b, 1, none⟩ (.int .i64 ((j : Int) + 1))) (hR1.drewN n).inc (HT0.out.gr (Gr.set (hg1.trans (Kept.drewN (Kept.refl _ w1) n)) 1 (.int .i64 ((j : Int) + 1))) hO))
            | (go_at_call 160; refine hC.mono ?_; rintro e w1 ⟨hg1, rfl, hR1⟩; clear c0 c1 c2 c3 c4 c5 c6 fr; obtain ⟨c0, c1, c2, c3, c4, c5, c6, fr⟩ := hR1.reads))
          obtain ⟨s0, s1⟩ := res_two (x := .int .i32 (a : Int)) (y := .int .i32 (z : Int)) (blk_res HGW.out hb0)
          refine bodyPost_ret (by simp [results, Tryz.results163, go_sem, s0, s1]; try rfl) rfl ?_
          obtain ⟨q1, q2⟩ := fin_two (x := .int .i32 (a : Int)) (y := .int .i32 (z : Int)) (HG0.out.1.trans HGW.out) hR3 hb0
          exact ⟨q1, rfl, q2⟩
    · rw [if_neg h45]
      have hne : ¬ pkV s j = 45 := pkV_ne (by omega) h45
      have hPk : ∀ w1, RB w1 b s { c with i := j } m vR → _ := fun w1 hR1 => peek_any w1 b s _ m vR hR1 hs hbd.2.1
      simp only at hPk
      generalize pkV s j = p at hPk hne
      have hnb : (p != 45) = true := by simpa using hne
      go_enter Tryz.func163, Tryz.ntmps163
      go_wp2_with (first
        | (go_at_call 162; refine (one_any (w1.drewN n) (a : Int)).mono ?_; rintro e w2 ⟨rfl, hb2⟩; have HGW : Hid _ := Kept.trans (hg1.trans (Kept.drewN (Kept.refl _ w1) n)) (Gr.below hb2); obtain ⟨f0, g0, g1⟩ := cells_res (W := w2) (blk_res HGW.out hb0))
        | (go_at_call 98; refine (hPk w1 hR1).mono ?_; rintro e w2 ⟨rfl, n, rfl⟩)
        | (go_at_call 160; refine hC.mono ?_; rintro e w1 ⟨hg1, rfl, hR1⟩))
      obtain ⟨s0, s1⟩ := res_two (x := .int .i32 (a : Int)) (y := .int .i32 (a : Int)) (blk_res HGW.out hb0)
      refine bodyPost_ret (by simp [results, Tryz.results163, go_sem, s0, s1]; try rfl) rfl ?_
      obtain ⟨q1, q2⟩ := fin_two (x := .int .i32 (a : Int)) (y := .int .i32 (a : Int)) (HG0.out.1.trans HGW.out) ((hR1.drewN n).below hb2) hb0
      exact ⟨q1, rfl, q2⟩
end Pr
end Go.Proofs.YtpgcidpghmoibaaGreatDoor

namespace Go.Proofs.YtpgcidpghmoibaaGreatDoor
namespace Pr
open Go.RowKit Go.Maps
open Rf (Kept)
open G (PNode)
theorem set_step {s : ByteArray} {E : List (ByteArray × Nat)} {d : Nat} {r : G.Res} {o : Bool} {rs : List (Nat × Nat)} {i : Nat} {T : List PNode} (h : G.R s E (.set o rs) d i T r) (h93 : G.pk s i ≠ 93) :
    match partR s i with
    | .err e p => r = .err e p
    | .ok a z j => a ≤ z ∧ z ≤ 1114111 ∧ i < j ∧ j ≤ s.size ∧ G.R s E (.set o (rs ++ [(a, z)])) d j T r := by
  cases h with
  | setEnd h1 => exact absurd h1 h93
  | setErr h1 h2 => rw [partR, h2]
  | setOne h1 h2 h3 h4 =>
    have := G.chr_bd h2
    rw [partR, h2]
    simp only [if_neg h3]
    exact ⟨Nat.le_refl _, this.2.2, this.1, this.2.1, h4⟩
  | setErr2 h1 h2 h3 h4 =>
    rw [partR, h2]
    simp only [if_pos h3, h4]
  | setErr3 h1 h2 h3 h4 h5 =>
    rw [partR, h2]
    simp only [if_pos h3, h4, if_pos h5]
  | setTwo h1 h2 h3 h4 h5 h6 =>
    have b1 := G.chr_bd h2
    have b2 := G.chr_bd h4
    rw [partR, h2]
    simp only [if_pos h3, h4, if_neg (Nat.not_lt.2 h5)]
    exact ⟨h5, b2.2.2, by omega, b2.2.1, h6⟩
theorem set_end {s : ByteArray} {E : List (ByteArray × Nat)} {d : Nat} {r : G.Res} {o : Bool} {rs : List (Nat × Nat)} {i : Nat} {T : List PNode} (h : G.R s E (.set o rs) d i T r) (h93 : G.pk s i = 93) : r = .ok T.length (i + 1) (T ++ [G.mk T 115 rs o []]) := by
  cases h with
  | setEnd h1 => rfl
  | setErr h1 _ => exact absurd h93 h1
  | setOne h1 _ _ _ => exact absurd h93 h1
  | setErr2 h1 _ _ _ => exact absurd h93 h1
  | setErr3 h1 _ _ _ _ => exact absurd h93 h1
  | setTwo h1 _ _ _ _ _ => exact absurd h93 h1
def SInv (w0 : World) (b : Nat) (s : ByteArray) (c : C) (bm : Nat) (vR : Value) (I : Nat → Prop) (T : List PNode) (B : List Nat) (E : List (ByteArray × Nat)) (d : Nat) (r : G.Res) (o : Bool) (v : Value) (wr : World) : Prop :=
  ∃ rs i1, PS wr b s { c with i := i1 } bm vR I T B E ∧ wr.ownsRow w0.heap.size 197 2 v rs.length (rc rs) ∧ Gr b w0 wr ∧ (∀ r ∈ rs, r.1 ≤ r.2 ∧ r.2 ≤ 1114111) ∧ rs.length ≤ i1 ∧ G.R s E (.set o rs) d i1 T r
theorem infoRr : (Tryz.prog.info? 197).map (fun i => (i.zero, i.size, i.bytes)) = some (some (.agg #[.int .i32 0, .int .i32 0]), 2, 8) := by kernel_rfl
theorem two_row (wr : World) (o : Obj) (a z : Nat) : ∀ j u, ([.int .i32 (a : Int), .int .i32 (z : Int)] : List Value)[j]? = some u → ((wr.alloc o).alloc (.cells #[.int .i32 (a : Int), .int .i32 (z : Int)] 197)).cell? ((⟨wr.heap.size + 1, 0, none⟩ : Addr).add j) = some u := by
  have h := World.news_of_block (cs := #[.int .i32 (a : Int), .int .i32 (z : Int)]) (t := 197) (fr := (0, 0)) (heap_alloc_new (wr.alloc o) (.cells #[.int .i32 (a : Int), .int .i32 (z : Int)] 197))
  rw [show (wr.alloc o).heap.size = wr.heap.size + 1 by simp] at h
  exact h
theorem row_push {w0 W w6 : World} {b : Nat} {s : ByteArray} {c : C} {bm : Nat} {vR : Value} {I : Nat → Prop} {T : List PNode} {B : List Nat} {E : List (ByteArray × Nat)} {o : Obj} {v : Value} {n : Nat} {xs : List Value}
    (hP : PS W b s c bm vR I T B E) (hB : Base w0.heap.size b bm) (hI : ∀ k, I k → k < w0.heap.size) (hr : W.ownsRow w0.heap.size 197 2 v n xs) (hg : (W.alloc o).grownBy w6 v.ownBlock) (hG : Gr b w0 W) : PS w6 b s c bm vR I T B E ∧ Gr b w0 w6 := by
  have hk : ∀ k, v.ownBlock = some k → w0.heap.size ≤ k := fun k e => (hr.lt k e).1
  have hb := hB.b
  have hm := hB.m
  exact ⟨grow_ps hP hg (fun k e h2 => by have := hk k e; have := hI k h2; omega) (fun e => by have := hk b e; omega) (fun e => by have := hk bm e; omega) (fun k e => hB.t k (hk k e)), grow_gr hG (Nat.le_refl _) hk hg⟩
set_option maxRecDepth 100000 in
set_option maxHeartbeats 4000000 in
theorem set_not (w : World) (b : Nat) (s : ByteArray) (c : C) (bm : Nat) (vR : Value) (I : Nat → Prop) (T : List PNode) (B : List Nat) (E : List (ByteArray × Nat)) (d : Nat) (r : G.Res) (h : PS w b s c bm vR I T B E) (hlt : c.i < s.size) (h94 : G.pk s (c.i + 1) = 94) (hr : G.R s E (.set true []) d (c.i + 2) T r) :
    Calls Tryz.prog 157 #[.pointer (some ⟨b, 0, none⟩)] w fun e w' => RPost w b s c bm vR I B E r e w' := by
  obtain ⟨i0, hi, hz0, hz1, hz2⟩ := info_parts infoRr
  obtain ⟨c0, c1, c2, c3, c4, c5, c6, fr⟩ := h.rb.reads
  have hs := h.sz
  have hB := h.base
  have hIw := h.tr.lt
  have hlt2 := G.lt_of_pk (s := s) (i := c.i + 1) (by omega)
  have hPk0 := peek_any _ b s _ _ vR h.rb.inc hs hlt
  rw [show pkV s ({ c with i := c.i + 1 } : C).i = 94 from (pkV_eq (by omega)).2 h94] at hPk0
  go_enter Tryz.func157, Tryz.ntmps157
  go_wp2_with (first
    | (go_at_call 98; refine hPk0.mono ?_; rintro e wa ⟨rfl, na, rfl⟩; have HST : Hid _ := (h.rb.inc.drewN na).inc; clear c0 c1 c2 c3 c4 c5 c6 fr; obtain ⟨c0, c1, c2, c3, c4, c5, c6, fr⟩ := (h.rb.inc.drewN na).reads))
  go_loopw [4] (fun v wr => SInv w b s c bm vR I T B E d r true v wr) (fun _ wr => s.size - posOf b wr)
  case atStart => exact ⟨[], c.i + 2, h.step (Gr.set (Kept.drewN (Gr.set (Kept.refl _ w) _ _) _) _ _) HST.out hlt2, World.ownsRow_nil _ _ _ _, Gr.set (Kept.drewN (Gr.set (Kept.refl _ w) _ _) _) _ _, by simp, by simp, hr⟩
  case round =>
    obtain ⟨rs, i1, hP, hL, hG, hrs, hpl, hR⟩ := hrel
    have HP : Hid (posOf b wr = i1) := hP.rb.pos
    have hi1 : i1 ≤ s.size := hP.ci
    have hszl := hG.size
    obtain ⟨pa, pc, hpe⟩ := Rf.own_len hL
    subst hpe
    have hPk := peek_any wr b s _ _ vR hP.rb hs hi1
    change Calls _ _ _ _ (fun r w' => r = .returned (.int .u8 (pkV s i1)) ∧ _) at hPk
    have hDr : ∀ n, Gr b wr (wr.drewN n) := fun n => Kept.drewN (Kept.refl _ wr) n
    by_cases h93 : G.pk s i1 = 93
    · obtain rfl := set_end hR h93
      rw [(pkV_eq (by omega)).2 h93] at hPk
      have hlt1 := G.lt_of_pk (s := s) (i := i1) (by omega)
      clear hR
      go_wp2_with (first
        | (go_at_call 153
           refine hN4.mono ?_
           rintro e w4 ⟨a, rfl, ha4, hblk4, hb4⟩
           have hb24 := below_then hb3 hb4
           obtain ⟨I4, hP4, hX4, _, hbl4⟩ := leaf_ps hP2 hb24 (Nat.le_trans hb3.size ha4) hblk4 (own_same_at ho3 (fun k e => hb4.block k (ho3.lt k e).2)) hok3 (fun r hr => ⟨by have := hrs r hr; omega, (hrs r hr).2⟩) (LocP.nil _ w2.heap.size I B) (by simp)
           have HL4 : Hid _ := And.intro hP4 (And.intro hX4 (And.intro hbl4 ((hG.trans hG2).trans (Gr.below hb24))))
           clear hP4 hX4 hbl4 hblk4 ha4 hb4 hb24 ho3 hok3 hb3 hN4 hN3)
        | (go_at_call 154; refine hN3.mono ?_; rintro e w3 ⟨vs, rfl, ⟨vr, rs', rfl, ho3, hok3⟩, hb3⟩; have hN4 := leaf_any w3 vr true (by obtain ⟨z1, z2, z3⟩ := Rf.own_len ho3; exact ⟨z1, _, z2, z3⟩))
        | (go_at_call 125; refine (step_any (wr.drewN n) b s _ _ vR 1 (hP.rb.drewN n) hs hlt1).mono ?_; rintro e w2 ⟨rfl, hR2, hE2⟩; have hG2 : Gr b wr w2 := (hDr n).trans hE2.kept; have hP2 := hP.step hG2 hR2 (G.skip_le s _ hlt1); have hN3 := except_any w2 rs (.slice pa rs.length pc) (own_low (own_same_at hL (fun k e => hG2.block k (hL.lt k e).2 (by have := (hL.lt k e).1; have := hB.b; omega))) (Nat.zero_le _)) (by omega) (fun r hr => (hrs r hr).1) (fun r hr => (hrs r hr).2))
        | (go_at_call 98; refine hPk.mono ?_; rintro e w1 ⟨rfl, n, rfl⟩))
      go_ret
      obtain ⟨q1, q2, q3, q4⟩ := HL4.out
      exact ⟨q4, I4, B ++ [a], by rw [q3]; rfl, q1, q2.low (hG.trans hG2).size⟩
    · have hne : ¬ pkV s i1 = 93 := pkV_ne (by omega) h93
      generalize pkV s i1 = p at hPk hne
      have hnb : (p != 93) = true := by simpa using hne
      have hst := set_step hR h93
      have hPt : ∀ n, _ := fun n => part_any (wr.drewN n) b s _ _ vR (hP.rb.drewN n) hs hi1 (hP.tab.gr (hDr n) hP.own) hP.own
      simp only at hPt
      clear hR h93 hne
      cases hc : partR s i1 with
      | err er pl =>
        simp only [hc] at hPt hst
        subst hst
        clear hc
        go_wp2_with (first
          | (go_at_call 163; refine (hPt n).mono ?_; rintro e w2 ⟨hg2, x, y, i', d', rfl, hR2⟩)
          | (go_at_call 98; refine hPk.mono ?_; rintro e w1 ⟨rfl, n, rfl⟩))
        go_ret
        exact ⟨((hG.trans (hDr n)).trans hg2).trans (Gr.below (below_made w2 _)), rfl, _, _, hR2.below (below_made w2 _)⟩
      | ok a z j =>
        simp only [hc] at hPt hst
        clear hc
        obtain ⟨t1, t2, t3, t4, t5⟩ := hst
        have HR : Hid _ := t5
        clear t5
        go_wp2_with (first
          | (at_builtin
             refine wpList_append_own_at _ rfl (.tmp 34) (.tmp 36) 145 rfl w.heap.size 197 i0 (.agg #[.int .i32 0, .int .i32 0]) 2 8 Tryz.underlying145 hi hz0 hz1 hz2 rfl (by decide) (.slice pa rs.length pc) rs.length (rc rs) rfl ((HL2.out.1.alloc _).alloc _) ⟨w2.heap.size + 1, 0, none⟩ 1 1 [.int .i32 (a : Int), .int .i32 (z : Int)] rfl rfl (two_row w2 _ a z) (renc_one (a, z)) (by unfold maxLen; omega) (by omega) (by have := hbw2; simp; omega) ?_
             intro v1 w6 hn1 hg1 _ hat1
             have HPU : Hid _ := And.intro hn1 (row_push (w0 := w) (HL2.out.2.1.below (below_made w2 _)) hB hIw (HL2.out.1.alloc _) hg1 (HL2.out.2.2.trans (Gr.below (below_made w2 _))))
             clear hn1 hg1 hat1)
          | (go_at_call 163; refine (hPt n).mono ?_; rintro e w2 ⟨hg2, rfl, hR2⟩; have hG2 : Gr b wr w2 := (hDr n).trans hg2; have hbw2 : w.heap.size ≤ w2.heap.size := Nat.le_trans hszl hG2.size; have HL2 : Hid _ := And.intro (own_same_at hL (fun k e => hG2.block k (hL.lt k e).2 (by have := (hL.lt k e).1; have := hB.b; omega))) (And.intro (hP.step hG2 hR2 t4) (hG.trans hG2)); clear hg2 hR2)
          | (go_at_call 98; refine hPk.mono ?_; rintro e w1 ⟨rfl, n, rfl⟩))
        have hQ : SInv w b s c bm vR I T B E d r true v1 w6 := by
          refine ⟨rs ++ [(a, z)], j, HPU.out.2.1, ?_, HPU.out.2.2, ?_, by simp; omega, HR.out⟩
          · rw [rc_snoc]
            have := HPU.out.1
            simpa [renc] using this
          · intro q hq
            rcases List.mem_append.1 hq with hq | hq
            · exact hrs q hq
            · simp only [List.mem_singleton] at hq
              subst hq
              exact ⟨t1, t2⟩
        refine ⟨hQ, ?_⟩
        rw [HP.out, HPU.out.2.1.rb.pos]
        show s.size - j < _
        omega
set_option maxRecDepth 100000 in
set_option maxHeartbeats 4000000 in
theorem set_plain (w : World) (b : Nat) (s : ByteArray) (c : C) (bm : Nat) (vR : Value) (I : Nat → Prop) (T : List PNode) (B : List Nat) (E : List (ByteArray × Nat)) (d : Nat) (r : G.Res) (h : PS w b s c bm vR I T B E) (hlt : c.i < s.size) (h94 : G.pk s (c.i + 1) ≠ 94) (hr : G.R s E (.set false []) d (c.i + 1) T r) :
    Calls Tryz.prog 157 #[.pointer (some ⟨b, 0, none⟩)] w fun e w' => RPost w b s c bm vR I B E r e w' := by
  obtain ⟨i0, hi, hz0, hz1, hz2⟩ := info_parts infoRr
  obtain ⟨c0, c1, c2, c3, c4, c5, c6, fr⟩ := h.rb.reads
  have hs := h.sz
  have hB := h.base
  have hIw := h.tr.lt
  have hPk0 := peek_any _ b s _ _ vR h.rb.inc hs hlt
  have hne0 : ¬ pkV s (c.i + 1) = 94 := pkV_ne (by omega) h94
  change Calls _ _ _ _ (fun r w' => r = .returned (.int .u8 (pkV s (c.i + 1))) ∧ _) at hPk0
  generalize pkV s (c.i + 1) = p0 at hPk0 hne0
  have hnb0 : (p0 == 94) = false := by simpa using hne0
  clear hne0
  go_enter Tryz.func157, Tryz.ntmps157
  go_wp2_with (first
    | (go_at_call 98; refine hPk0.mono ?_; rintro e wa ⟨rfl, na, rfl⟩))
  go_loopw [4] (fun v wr => SInv w b s c bm vR I T B E d r false v wr) (fun _ wr => s.size - posOf b wr)
  case atStart => exact ⟨[], c.i + 1, h.step (Kept.drewN (Gr.set (Kept.refl _ w) _ _) _) (h.rb.inc.drewN _) hlt, World.ownsRow_nil _ _ _ _, Kept.drewN (Gr.set (Kept.refl _ w) _ _) _, by simp, by simp, hr⟩
  case round =>
    obtain ⟨rs, i1, hP, hL, hG, hrs, hpl, hR⟩ := hrel
    have HP : Hid (posOf b wr = i1) := hP.rb.pos
    have hi1 : i1 ≤ s.size := hP.ci
    have hszl := hG.size
    obtain ⟨pa, pc, hpe⟩ := Rf.own_len hL
    subst hpe
    have hPk := peek_any wr b s _ _ vR hP.rb hs hi1
    change Calls _ _ _ _ (fun r w' => r = .returned (.int .u8 (pkV s i1)) ∧ _) at hPk
    have hDr : ∀ n, Gr b wr (wr.drewN n) := fun n => Kept.drewN (Kept.refl _ wr) n
    by_cases h93 : G.pk s i1 = 93
    · obtain rfl := set_end hR h93
      rw [(pkV_eq (by omega)).2 h93] at hPk
      have hlt1 := G.lt_of_pk (s := s) (i := i1) (by omega)
      clear hR
      go_wp2_with (first
        | (go_at_call 153
           refine hN4.mono ?_
           rintro e w4 ⟨a, rfl, ha4, hblk4, hb4⟩
           have hb24 := below_then hb3 hb4
           obtain ⟨I4, hP4, hX4, _, hbl4⟩ := leaf_ps hP2 hb24 (Nat.le_trans hb3.size ha4) hblk4 (own_same_at ho3 (fun k e => hb4.block k (ho3.lt k e).2)) hok3 (fun r hr => ⟨by have := hrs r hr; omega, (hrs r hr).2⟩) (LocP.nil _ w2.heap.size I B) (by simp)
           have HL4 : Hid _ := And.intro hP4 (And.intro hX4 (And.intro hbl4 ((hG.trans hG2).trans (Gr.below hb24))))
           clear hP4 hX4 hbl4 hblk4 ha4 hb4 hb24 ho3 hok3 hb3 hN4 hN3)
        | (go_at_call 161; refine hN3.mono ?_; rintro e w3 ⟨vs, rfl, ⟨vr, rs', rfl, ho3, hok3⟩, hb3⟩; have hN4 := leaf_any w3 vr false (by obtain ⟨z1, z2, z3⟩ := Rf.own_len ho3; exact ⟨z1, _, z2, z3⟩))
        | (go_at_call 125; refine (step_any (wr.drewN n) b s _ _ vR 1 (hP.rb.drewN n) hs hlt1).mono ?_; rintro e w2 ⟨rfl, hR2, hE2⟩; have hG2 : Gr b wr w2 := (hDr n).trans hE2.kept; have hP2 := hP.step hG2 hR2 (G.skip_le s _ hlt1); have hN3 := of_any w2 rs (.slice pa rs.length pc) (own_low (own_same_at hL (fun k e => hG2.block k (hL.lt k e).2 (by have := (hL.lt k e).1; have := hB.b; omega))) (Nat.zero_le _)) (by omega) (fun r hr => (hrs r hr).1) (fun r hr => (hrs r hr).2))
        | (go_at_call 98; refine hPk.mono ?_; rintro e w1 ⟨rfl, n, rfl⟩))
      go_ret
      obtain ⟨q1, q2, q3, q4⟩ := HL4.out
      exact ⟨q4, I4, B ++ [a], by rw [q3]; rfl, q1, q2.low (hG.trans hG2).size⟩
    · have hne : ¬ pkV s i1 = 93 := pkV_ne (by omega) h93
      generalize pkV s i1 = p at hPk hne
      have hnb : (p != 93) = true := by simpa using hne
      have hst := set_step hR h93
      have hPt : ∀ n, _ := fun n => part_any (wr.drewN n) b s _ _ vR (hP.rb.drewN n) hs hi1 (hP.tab.gr (hDr n) hP.own) hP.own
      simp only at hPt
      clear hR h93 hne
      cases hc : partR s i1 with
      | err er pl =>
        simp only [hc] at hPt hst
        subst hst
        clear hc
        go_wp2_with (first
          | (go_at_call 163; refine (hPt n).mono ?_; rintro e w2 ⟨hg2, x, y, i', d', rfl, hR2⟩)
          | (go_at_call 98; refine hPk.mono ?_; rintro e w1 ⟨rfl, n, rfl⟩))
        go_ret
        exact ⟨((hG.trans (hDr n)).trans hg2).trans (Gr.below (below_made w2 _)), rfl, _, _, hR2.below (below_made w2 _)⟩
      | ok a z j =>
        simp only [hc] at hPt hst
        clear hc
        obtain ⟨t1, t2, t3, t4, t5⟩ := hst
        have HR : Hid _ := t5
        clear t5
        go_wp2_with (first
          | (at_builtin
             refine wpList_append_own_at _ rfl (.tmp 34) (.tmp 36) 145 rfl w.heap.size 197 i0 (.agg #[.int .i32 0, .int .i32 0]) 2 8 Tryz.underlying145 hi hz0 hz1 hz2 rfl (by decide) (.slice pa rs.length pc) rs.length (rc rs) rfl ((HL2.out.1.alloc _).alloc _) ⟨w2.heap.size + 1, 0, none⟩ 1 1 [.int .i32 (a : Int), .int .i32 (z : Int)] rfl rfl (two_row w2 _ a z) (renc_one (a, z)) (by unfold maxLen; omega) (by omega) (by have := hbw2; simp; omega) ?_
             intro v1 w6 hn1 hg1 _ hat1
             have HPU : Hid _ := And.intro hn1 (row_push (w0 := w) (HL2.out.2.1.below (below_made w2 _)) hB hIw (HL2.out.1.alloc _) hg1 (HL2.out.2.2.trans (Gr.below (below_made w2 _))))
             clear hn1 hg1 hat1)
          | (go_at_call 163; refine (hPt n).mono ?_; rintro e w2 ⟨hg2, rfl, hR2⟩; have hG2 : Gr b wr w2 := (hDr n).trans hg2; have hbw2 : w.heap.size ≤ w2.heap.size := Nat.le_trans hszl hG2.size; have HL2 : Hid _ := And.intro (own_same_at hL (fun k e => hG2.block k (hL.lt k e).2 (by have := (hL.lt k e).1; have := hB.b; omega))) (And.intro (hP.step hG2 hR2 t4) (hG.trans hG2)); clear hg2 hR2)
          | (go_at_call 98; refine hPk.mono ?_; rintro e w1 ⟨rfl, n, rfl⟩))
        have hQ : SInv w b s c bm vR I T B E d r false v1 w6 := by
          refine ⟨rs ++ [(a, z)], j, HPU.out.2.1, ?_, HPU.out.2.2, ?_, by simp; omega, HR.out⟩
          · rw [rc_snoc]
            have := HPU.out.1
            simpa [renc] using this
          · intro q hq
            rcases List.mem_append.1 hq with hq | hq
            · exact hrs q hq
            · simp only [List.mem_singleton] at hq
              subst hq
              exact ⟨t1, t2⟩
        refine ⟨hQ, ?_⟩
        rw [HP.out, HPU.out.2.1.rb.pos]
        show s.size - j < _
        omega
end Pr
end Go.Proofs.YtpgcidpghmoibaaGreatDoor
