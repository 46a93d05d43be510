/-
  THE PROGRAM's READER: the walks of item and atomAhead, given what expr does one bracket deeper. Conditions: the reader stands where the next part begins.
-/
import Derived.Test.YtpgcidpghmoibaaGreatDoorK40
namespace Go.Proofs.YtpgcidpghmoibaaGreatDoor
namespace Pr
open Go.RowKit Go.Maps
open Rf (Kept)
open G (PNode)
set_option maxRecDepth 100000 in
set_option maxHeartbeats 1000000 in
theorem ahead_any (w : World) (b : Nat) (s : ByteArray) (c : C) (m vR : Value) (hR : RB w b s c m vR) (hs : s.size ≤ 2000) (hi : c.i ≤ s.size) :
    Calls Tryz.prog 142 #[.pointer (some ⟨b, 0, none⟩)] w fun e w' => e = .returned (.bool (G.atomic (G.pk s c.i))) ∧ ∃ n, w' = w.drewN n := by
  have hPk := peek_any w b s c _ vR hR hs hi
  cases ha : G.atomic (G.pk s c.i) with
  | false =>
    simp only [G.atomic, decide_eq_false_iff_not] at ha
    have p1 := pkV_ne (s := s) (i := c.i) (c := 40) (by omega) (fun e => ha (by omega))
    have p2 := pkV_ne (s := s) (i := c.i) (c := 46) (by omega) (fun e => ha (by omega))
    have p3 := pkV_ne (s := s) (i := c.i) (c := 36) (by omega) (fun e => ha (by omega))
    have p4 := pkV_ne (s := s) (i := c.i) (c := 39) (by omega) (fun e => ha (by omega))
    have p5 := pkV_ne (s := s) (i := c.i) (c := 91) (by omega) (fun e => ha (by omega))
    generalize pkV s c.i = p at hPk p1 p2 p3 p4 p5
    clear ha
    go_enter Tryz.func142, Tryz.ntmps142
    go_wp2_with (go_at_call 98; refine hPk.mono ?_; rintro e w1 ⟨rfl, n, rfl⟩)
    go_ret
    exact ⟨rfl, _, rfl⟩
  | true =>
    simp only [G.atomic, decide_eq_true_eq] at ha
    have hv : pkV s c.i = G.pk s c.i := (pkV_eq (by omega)).2 rfl
    rw [hv] at hPk
    clear hv
    generalize G.pk s c.i = p at hPk ha
    rcases ha with rfl | rfl | rfl | rfl | rfl
    all_goals
      go_enter Tryz.func142, Tryz.ntmps142
      go_wp2_with (go_at_call 98; refine hPk.mono ?_; rintro e w1 ⟨rfl, n, rfl⟩)
      go_ret
      exact ⟨rfl, _, rfl⟩
set_option maxRecDepth 100000 in
set_option maxHeartbeats 1000000 in
theorem item_err (w : World) (b : Nat) (s : ByteArray) (c : C) (bm : Nat) (vR : Value) (I : Nat → Prop) (B : List Nat) (E : List (ByteArray × Nat)) (er p : Nat) (hA : Calls Tryz.prog 148 #[.pointer (some ⟨b, 0, none⟩)] w fun e w' => RPost w b s c bm vR I B E (.err er p) e w') :
    Calls Tryz.prog 143 #[.pointer (some ⟨b, 0, none⟩)] w fun e w' => RPost w b s c bm vR I B E (.err er p) e w' := by
  go_enter Tryz.func143, Tryz.ntmps143
  go_wp2_with (go_at_call 148; refine hA.mono ?_; rintro e w1 ⟨hg1, rfl, i1, d1, hR1⟩)
  go_ret
  exact ⟨hg1, rfl, _, _, hR1⟩
theorem own_new_base {w : World} {b e size n g cap : Nat} {xs : List Value} (h : w.ownsRow 0 e size (.slice (some ⟨g, 0, none⟩) n cap) n xs) (hg : b ≤ g) : w.ownsRow b e size (.slice (some ⟨g, 0, none⟩) n cap) n xs := by
  obtain ⟨h1, h2⟩ := h
  refine ⟨h1, ?_⟩
  rcases h2 with ⟨h2, _⟩ | ⟨g', cap', cur, h2, _, h4⟩
  · cases h2
  · simp only [Value.slice.injEq, Option.some.injEq, Addr.mk.injEq, and_true, true_and] at h2
    obtain ⟨rfl, rfl⟩ := h2
    exact .inr ⟨g, cap, cur, rfl, hg, h4⟩
set_option maxRecDepth 100000 in
set_option maxHeartbeats 1000000 in
theorem item_star (w : World) (b : Nat) (s : ByteArray) (c : C) (bm : Nat) (vR : Value) (I : Nat → Prop) (B : List Nat) (E : List (ByteArray × Nat)) (n j : Nat) (T' : List PNode) (hs : s.size ≤ 2000) (hn : n < T'.length) (hk : G.pk s (G.skip s j) = 42) (hA : Calls Tryz.prog 148 #[.pointer (some ⟨b, 0, none⟩)] w fun e w' => RPost w b s c bm vR I B E (.ok n j T') e w') :
    Calls Tryz.prog 143 #[.pointer (some ⟨b, 0, none⟩)] w fun e w' => RPost w b s c bm vR I B E (.ok T'.length (G.skip s j + 1) (T' ++ [G.mk T' 42 [] false [n]])) e w' := by
  have hlt := G.lt_of_pk (s := s) (i := G.skip s j) (by omega)
  go_enter Tryz.func143, Tryz.ntmps143
  go_wp2_with (first
    | (go_at_call 149; refine hN4.mono ?_; rintro e w4 ⟨a, g, rfl, ha4, hg4, hblk4, ho4, hb4⟩)
    | (go_at_call 126; refine (take_yes w1 b s _ _ vR 42 (by omega) hP1.rb hs hP1.ci hk).mono ?_; rintro e w3 ⟨rfl, hR3, hE3⟩; have hG3 : Gr b w w3 := Kept.trans hg1 hE3.kept; have hG13 : Gr b w1 w3 := hE3.kept; have hP3 := hP1.step hG13 hR3 (G.skip_le s _ hlt); have hN4 := repeat_any w3 3 (bl B1 n) _ (hP3.tr.places hP3.wf n hn))
    | (go_at_call 148; refine hA.mono ?_; rintro e w1 ⟨hg1, I1, B1, rfl, hP1, hX1⟩))
  go_ret
  have hP4 := hP3.below hb4
  have hsz : G.sz T' n = min (G.sizeOf T' [n]) 101 := by
    have := hP3.tr.sz_le hP3.wf n hn
    simp [G.sizeOf]
    omega
  obtain ⟨I', hP5, hX5⟩ := hP4.inner (w0 := w3) (k := 42) (ps := [n]) hP3.base.b hP3.base.m ha4 (.inr ⟨by decide, rfl⟩) (by simpa using hn) (by rw [← hsz]; exact hblk4) (own_new_base ho4 hg4)
  refine ⟨hG3.trans (Gr.below hb4), I', B1 ++ [a], ?_, hP5, hX1.trans hG3.size hX5⟩
  rw [← hP3.tr.len, bl_new]
  rfl
set_option maxRecDepth 100000 in
set_option maxHeartbeats 1000000 in
theorem item_plus (w : World) (b : Nat) (s : ByteArray) (c : C) (bm : Nat) (vR : Value) (I : Nat → Prop) (B : List Nat) (E : List (ByteArray × Nat)) (n j : Nat) (T' : List PNode) (hs : s.size ≤ 2000) (hn : n < T'.length) (hk : G.pk s (G.skip s j) = 43) (hA : Calls Tryz.prog 148 #[.pointer (some ⟨b, 0, none⟩)] w fun e w' => RPost w b s c bm vR I B E (.ok n j T') e w') :
    Calls Tryz.prog 143 #[.pointer (some ⟨b, 0, none⟩)] w fun e w' => RPost w b s c bm vR I B E (.ok T'.length (G.skip s j + 1) (T' ++ [G.mk T' 43 [] false [n]])) e w' := by
  have hlt := G.lt_of_pk (s := s) (i := G.skip s j) (by omega)
  go_enter Tryz.func143, Tryz.ntmps143
  go_wp2_with (first
    | (go_at_call 149; refine hN4.mono ?_; rintro e w4 ⟨a, g, rfl, ha4, hg4, hblk4, ho4, hb4⟩)
    | (go_at_call 126; refine (take_yes wn0 b s _ _ vR 43 (by omega) hRn0 hs hP1.ci hk).mono ?_; rintro e w3 ⟨rfl, hR3, hE3⟩; have hG3 : Gr b w w3 := Kept.trans hGn0 hE3.kept; have hG13 : Gr b w1 w3 := (Kept.trans hEn0.kept hE3.kept); have hP3 := hP1.step hG13 hR3 (G.skip_le s _ hlt); have hN4 := repeat_any w3 4 (bl B1 n) _ (hP3.tr.places hP3.wf n hn))
    | (go_at_call 126; refine (take_not w1 b s _ _ vR 42 (by omega) hP1.rb hs hP1.ci (by show ¬ G.pk s (G.skip s j) = (42 : Int); rw [hk]; decide)).mono ?_; rintro e wn0 ⟨rfl, hRn0, hEn0⟩; have hGn0 : Gr b w wn0 := Kept.trans hg1 hEn0.kept)
    | (go_at_call 148; refine hA.mono ?_; rintro e w1 ⟨hg1, I1, B1, rfl, hP1, hX1⟩))
  go_ret
  have hP4 := hP3.below hb4
  have hsz : G.sz T' n = min (G.sizeOf T' [n]) 101 := by
    have := hP3.tr.sz_le hP3.wf n hn
    simp [G.sizeOf]
    omega
  obtain ⟨I', hP5, hX5⟩ := hP4.inner (w0 := w3) (k := 43) (ps := [n]) hP3.base.b hP3.base.m ha4 (.inr ⟨by decide, rfl⟩) (by simpa using hn) (by rw [← hsz]; exact hblk4) (own_new_base ho4 hg4)
  refine ⟨hG3.trans (Gr.below hb4), I', B1 ++ [a], ?_, hP5, hX1.trans hG3.size hX5⟩
  rw [← hP3.tr.len, bl_new]
  rfl
set_option maxRecDepth 100000 in
set_option maxHeartbeats 1000000 in
theorem item_maybe (w : World) (b : Nat) (s : ByteArray) (c : C) (bm : Nat) (vR : Value) (I : Nat → Prop) (B : List Nat) (E : List (ByteArray × Nat)) (n j : Nat) (T' : List PNode) (hs : s.size ≤ 2000) (hn : n < T'.length) (hk : G.pk s (G.skip s j) = 63) (hA : Calls Tryz.prog 148 #[.pointer (some ⟨b, 0, none⟩)] w fun e w' => RPost w b s c bm vR I B E (.ok n j T') e w') :
    Calls Tryz.prog 143 #[.pointer (some ⟨b, 0, none⟩)] w fun e w' => RPost w b s c bm vR I B E (.ok T'.length (G.skip s j + 1) (T' ++ [G.mk T' 63 [] false [n]])) e w' := by
  have hlt := G.lt_of_pk (s := s) (i := G.skip s j) (by omega)
  go_enter Tryz.func143, Tryz.ntmps143
  go_wp2_with (first
    | (go_at_call 149; refine hN4.mono ?_; rintro e w4 ⟨a, g, rfl, ha4, hg4, hblk4, ho4, hb4⟩)
    | (go_at_call 126; refine (take_yes wn1 b s _ _ vR 63 (by omega) hRn1 hs hP1.ci hk).mono ?_; rintro e w3 ⟨rfl, hR3, hE3⟩; have hG3 : Gr b w w3 := Kept.trans hGn1 hE3.kept; have hG13 : Gr b w1 w3 := (Kept.trans hEn0.kept (Kept.trans hEn1.kept hE3.kept)); have hP3 := hP1.step hG13 hR3 (G.skip_le s _ hlt); have hN4 := repeat_any w3 5 (bl B1 n) _ (hP3.tr.places hP3.wf n hn))
    | (go_at_call 126; refine (take_not wn0 b s _ _ vR 43 (by omega) hRn0 hs hP1.ci (by show ¬ G.pk s (G.skip s j) = (43 : Int); rw [hk]; decide)).mono ?_; rintro e wn1 ⟨rfl, hRn1, hEn1⟩; have hGn1 : Gr b w wn1 := Kept.trans hGn0 hEn1.kept)
    | (go_at_call 126; refine (take_not w1 b s _ _ vR 42 (by omega) hP1.rb hs hP1.ci (by show ¬ G.pk s (G.skip s j) = (42 : Int); rw [hk]; decide)).mono ?_; rintro e wn0 ⟨rfl, hRn0, hEn0⟩; have hGn0 : Gr b w wn0 := Kept.trans hg1 hEn0.kept)
    | (go_at_call 148; refine hA.mono ?_; rintro e w1 ⟨hg1, I1, B1, rfl, hP1, hX1⟩))
  go_ret
  have hP4 := hP3.below hb4
  have hsz : G.sz T' n = min (G.sizeOf T' [n]) 101 := by
    have := hP3.tr.sz_le hP3.wf n hn
    simp [G.sizeOf]
    omega
  obtain ⟨I', hP5, hX5⟩ := hP4.inner (w0 := w3) (k := 63) (ps := [n]) hP3.base.b hP3.base.m ha4 (.inr ⟨by decide, rfl⟩) (by simpa using hn) (by rw [← hsz]; exact hblk4) (own_new_base ho4 hg4)
  refine ⟨hG3.trans (Gr.below hb4), I', B1 ++ [a], ?_, hP5, hX1.trans hG3.size hX5⟩
  rw [← hP3.tr.len, bl_new]
  rfl
set_option maxRecDepth 100000 in
set_option maxHeartbeats 1000000 in
theorem item_plain (w : World) (b : Nat) (s : ByteArray) (c : C) (bm : Nat) (vR : Value) (I : Nat → Prop) (B : List Nat) (E : List (ByteArray × Nat)) (n j : Nat) (T' : List PNode) (hs : s.size ≤ 2000) (hrep : G.repeats (G.pk s (G.skip s j)) = false) (hA : Calls Tryz.prog 148 #[.pointer (some ⟨b, 0, none⟩)] w fun e w' => RPost w b s c bm vR I B E (.ok n j T') e w') :
    Calls Tryz.prog 143 #[.pointer (some ⟨b, 0, none⟩)] w fun e w' => RPost w b s c bm vR I B E (.ok n (G.skip s j) T') e w' := by
  have hk : ∀ q : Nat, (q = 42 ∨ q = 43 ∨ q = 63) → ¬ G.pk s (G.skip s j) = (q : Int) := by
    intro q hq e
    simp only [G.repeats, decide_eq_false_iff_not] at hrep
    omega
  go_enter Tryz.func143, Tryz.ntmps143
  go_wp2_with (first
    | (go_at_call 126; refine (take_not wn1 b s _ _ vR 63 (by omega) hRn1 hs hP1.ci (hk 63 (by decide))).mono ?_; rintro e wn2 ⟨rfl, hRn2, hEn2⟩; have hGn2 : Gr b w wn2 := Kept.trans hGn1 hEn2.kept)
    | (go_at_call 126; refine (take_not wn0 b s _ _ vR 43 (by omega) hRn0 hs hP1.ci (hk 43 (by decide))).mono ?_; rintro e wn1 ⟨rfl, hRn1, hEn1⟩; have hGn1 : Gr b w wn1 := Kept.trans hGn0 hEn1.kept)
    | (go_at_call 126; refine (take_not w1 b s _ _ vR 42 (by omega) hP1.rb hs hP1.ci (hk 42 (by decide))).mono ?_; rintro e wn0 ⟨rfl, hRn0, hEn0⟩; have hGn0 : Gr b w wn0 := Kept.trans hg1 hEn0.kept)
    | (go_at_call 148; refine hA.mono ?_; rintro e w1 ⟨hg1, I1, B1, rfl, hP1, hX1⟩))
  go_ret
  refine ⟨hGn2, I1, B1, rfl, ?_, hX1⟩
  rw [G.skip_skip]
  exact hP1.step (Kept.trans (Kept.trans hEn0.kept hEn1.kept) hEn2.kept) hRn2 hP1.ci
end Pr
end Go.Proofs.YtpgcidpghmoibaaGreatDoor
