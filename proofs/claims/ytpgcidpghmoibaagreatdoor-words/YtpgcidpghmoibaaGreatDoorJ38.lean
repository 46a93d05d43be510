/-
  THE PROGRAM's READER: the walks of item and atomAhead, given what expr does one bracket deeper. Conditions: the reader stands where the next part begins.
  THE PROGRAM's READER: the walks of seq and expr, however many brackets are open. Conditions: the reader stands where the next part begins.
-/
import Derived.Test.YtpgcidpghmoibaaGreatDoorJ37
namespace Go.Proofs.YtpgcidpghmoibaaGreatDoor
namespace Pr
open Go.RowKit Go.Maps
open Rf (Kept)
open G (PNode)

set_option maxRecDepth 100000 in
set_option maxHeartbeats 1000000 in
theorem ahead_any (w : World) (b : Nat) (s : ByteArray) (c : C) (m vR : Value) (hR : RB w b s c m vR) (hs : s.size ≤ 2000) (hi : c.i ≤ s.size) :
    Calls Tryz.prog 142 #[.pointer (some ⟨b, 0, none⟩)] w fun e w' => e = .returned (.bool (G.atomic (G.pk s c.i))) ∧ ∃ n, w' = w.drewN n := by
  have hPk := peek_any w b s c _ vR hR hs hi
  cases ha : G.atomic (G.pk s c.i) with
  | false =>
    simp only [G.atomic, decide_eq_false_iff_not] at ha
    have p1 := pkV_ne (s := s) (i := c.i) (c := 40) (by omega) (fun e => ha (by omega))
    have p2 := pkV_ne (s := s) (i := c.i) (c := 46) (by omega) (fun e => ha (by omega))
    have p3 := pkV_ne (s := s) (i := c.i) (c := 36) (by omega) (fun e => ha (by omega))
    have p4 := pkV_ne (s := s) (i := c.i) (c := 39) (by omega) (fun e => ha (by omega))
    have p5 := pkV_ne (s := s) (i := c.i) (c := 91) (by omega) (fun e => ha (by omega))
    generalize pkV s c.i = p at hPk p1 p2 p3 p4 p5
    clear ha
    go_enter Tryz.func142, Tryz.ntmps142
    go_wp2_with (go_at_call 98; refine hPk.mono ?_; rintro e w1 ⟨rfl, n, rfl⟩)
    go_ret
    exact ⟨rfl, _, rfl⟩
  | true =>
    simp only [G.atomic, decide_eq_true_eq] at ha
    have hv : pkV s c.i = G.pk s c.i := (pkV_eq (by omega)).2 rfl
    rw [hv] at hPk
    clear hv
    generalize G.pk s c.i = p at hPk ha
    rcases ha with rfl | rfl | rfl | rfl | rfl
    all_goals
      go_enter Tryz.func142, Tryz.ntmps142
      go_wp2_with (go_at_call 98; refine hPk.mono ?_; rintro e w1 ⟨rfl, n, rfl⟩)
      go_ret
      exact ⟨rfl, _, rfl⟩

set_option maxRecDepth 100000 in
set_option maxHeartbeats 1000000 in
theorem item_err (w : World) (b : Nat) (s : ByteArray) (c : C) (bm : Nat) (vR : Value) (I : Nat → Prop) (B : List Nat) (E : List (ByteArray × Nat)) (er p : Nat) (hA : Calls Tryz.prog 148 #[.pointer (some ⟨b, 0, none⟩)] w fun e w' => RPost w b s c bm vR I B E (.err er p) e w') :
    Calls Tryz.prog 143 #[.pointer (some ⟨b, 0, none⟩)] w fun e w' => RPost w b s c bm vR I B E (.err er p) e w' := by
  go_enter Tryz.func143, Tryz.ntmps143
  go_wp2_with (go_at_call 148; refine hA.mono ?_; rintro e w1 ⟨hg1, rfl, i1, d1, hR1⟩)
  go_ret
  exact ⟨hg1, rfl, _, _, hR1⟩

theorem own_new_base {w : World} {b e size n g cap : Nat} {xs : List Value} (h : w.ownsRow 0 e size (.slice (some ⟨g, 0, none⟩) n cap) n xs) (hg : b ≤ g) : w.ownsRow b e size (.slice (some ⟨g, 0, none⟩) n cap) n xs := by
  obtain ⟨h1, h2⟩ := h
  refine ⟨h1, ?_⟩
  rcases h2 with ⟨h2, _⟩ | ⟨g', cap', cur, h2, _, h4⟩
  · cases h2
  · simp only [Value.slice.injEq, Option.some.injEq, Addr.mk.injEq, and_true, true_and] at h2
    obtain ⟨rfl, rfl⟩ := h2
    exact .inr ⟨g, cap, cur, rfl, hg, h4⟩

set_option maxRecDepth 100000 in
set_option maxHeartbeats 1000000 in
theorem item_star (w : World) (b : Nat) (s : ByteArray) (c : C) (bm : Nat) (vR : Value) (I : Nat → Prop) (B : List Nat) (E : List (ByteArray × Nat)) (n j : Nat) (T' : List PNode) (hs : s.size ≤ 2000) (hn : n < T'.length) (hk : G.pk s (G.skip s j) = 42) (hA : Calls Tryz.prog 148 #[.pointer (some ⟨b, 0, none⟩)] w fun e w' => RPost w b s c bm vR I B E (.ok n j T') e w') :
    Calls Tryz.prog 143 #[.pointer (some ⟨b, 0, none⟩)] w fun e w' => RPost w b s c bm vR I B E (.ok T'.length (G.skip s j + 1) (T' ++ [G.mk T' 42 [] false [n]])) e w' := by
  have hlt := G.lt_of_pk (s := s) (i := G.skip s j) (by omega)
  go_enter Tryz.func143, Tryz.ntmps143
  go_wp2_with (first
    | (go_at_call 149; refine hN4.mono ?_; rintro e w4 ⟨a, g, rfl, ha4, hg4, hblk4, ho4, hb4⟩)
    | (go_at_call 126; refine (take_yes w1 b s _ _ vR 42 (by omega) hP1.rb hs hP1.ci hk).mono ?_; rintro e w3 ⟨rfl, hR3, hE3⟩; have hG3 : Gr b w w3 := Kept.trans hg1 hE3.kept; have hG13 : Gr b w1 w3 := hE3.kept; have hP3 := hP1.step hG13 hR3 (G.skip_le s _ hlt); have hN4 := repeat_any w3 3 (bl B1 n) _ (hP3.tr.places hP3.wf n hn))
    | (go_at_call 148; refine hA.mono ?_; rintro e w1 ⟨hg1, I1, B1, rfl, hP1, hX1⟩))
  go_ret
  have hP4 := hP3.below hb4
  have hsz : G.sz T' n = min (G.sizeOf T' [n]) 101 := by
    have := hP3.tr.sz_le hP3.wf n hn
    simp [G.sizeOf]
    omega
  obtain ⟨I', hP5, hX5⟩ := hP4.inner (w0 := w3) (k := 42) (ps := [n]) hP3.base.b hP3.base.m ha4 (.inr ⟨by decide, rfl⟩) (by simpa using hn) (by rw [← hsz]; exact hblk4) (own_new_base ho4 hg4)
  refine ⟨hG3.trans (Gr.below hb4), I', B1 ++ [a], ?_, hP5, hX1.trans hG3.size hX5⟩
  rw [← hP3.tr.len, bl_new]
  rfl

set_option maxRecDepth 100000 in
set_option maxHeartbeats 1000000 in
theorem item_plus (w : World) (b : Nat) (s : ByteArray) (c : C) (bm : Nat) (vR : Value) (I : Nat → Prop) (B : List Nat) (E : List (ByteArray × Nat)) (n j : Nat) (T' : List PNode) (hs : s.size ≤ 2000) (hn : n < T'.length) (hk : G.pk s (G.skip s j) = 43) (hA : Calls Tryz.prog 148 #[.pointer (some ⟨b, 0, none⟩)] w fun e w' => RPost w b s c bm vR I B E (.ok n j T') e w') :
    Calls Tryz.prog 143 #[.pointer (some ⟨b, 0, none⟩)] w fun e w' => RPost w b s c bm vR I B E (.ok T'.length (G.skip s j + 1) (T' ++ [G.mk T' 43 [] false [n]])) e w' := by
  have hlt := G.lt_of_pk (s := s) (i := G.skip s j) (by omega)
  go_enter Tryz.func143, Tryz.ntmps143
  go_wp2_with (first
    | (go_at_call 149; refine hN4.mono ?_; rintro e w4 ⟨a, g, rfl, ha4, hg4, hblk4, ho4, hb4⟩)
    | (go_at_call 126; refine (take_yes wn0 b s _ _ vR 43 (by omega) hRn0 hs hP1.ci hk).mono ?_; rintro e w3 ⟨rfl, hR3, hE3⟩; have hG3 : Gr b w w3 := Kept.trans hGn0 hE3.kept; have hG13 : Gr b w1 w3 := (Kept.trans hEn0.kept hE3.kept); have hP3 := hP1.step hG13 hR3 (G.skip_le s _ hlt); have hN4 := repeat_any w3 4 (bl B1 n) _ (hP3.tr.places hP3.wf n hn))
    | (go_at_call 126; refine (take_not w1 b s _ _ vR 42 (by omega) hP1.rb hs hP1.ci (by show ¬ G.pk s (G.skip s j) = (42 : Int); rw [hk]; decide)).mono ?_; rintro e wn0 ⟨rfl, hRn0, hEn0⟩; have hGn0 : Gr b w wn0 := Kept.trans hg1 hEn0.kept)
    | (go_at_call 148; refine hA.mono ?_; rintro e w1 ⟨hg1, I1, B1, rfl, hP1, hX1⟩))
  go_ret
  have hP4 := hP3.below hb4
  have hsz : G.sz T' n = min (G.sizeOf T' [n]) 101 := by
    have := hP3.tr.sz_le hP3.wf n hn
    simp [G.sizeOf]
    omega
  obtain ⟨I', hP5, hX5⟩ := hP4.inner (w0 := w3) (k := 43) (ps := [n]) hP3.base.b hP3.base.m ha4 (.inr ⟨by decide, rfl⟩) (by simpa using hn) (by rw [← hsz]; exact hblk4) (own_new_base ho4 hg4)
  refine ⟨hG3.trans (Gr.below hb4), I', B1 ++ [a], ?_, hP5, hX1.trans hG3.size hX5⟩
  rw [← hP3.tr.len, bl_new]
  rfl

set_option maxRecDepth 100000 in
set_option maxHeartbeats 1000000 in
theorem item_maybe (w : World) (b : Nat) (s : ByteArray) (c : C) (bm : Nat) (vR : Value) (I : Nat → Prop) (B : List Nat) (E : List (ByteArray × Nat)) (n j : Nat) (T' : List PNode) (hs : s.size ≤ 2000) (hn : n < T'.length) (hk : G.pk s (G.skip s j) = 63) (hA : Calls Tryz.prog 148 #[.pointer (some ⟨b, 0, none⟩)] w fun e w' => RPost w b s c bm vR I B E (.ok n j T') e w') :
    Calls Tryz.prog 143 #[.pointer (some ⟨b, 0, none⟩)] w fun e w' => RPost w b s c bm vR I B E (.ok T'.length (G.skip s j + 1) (T' ++ [G.mk T' 63 [] false [n]])) e w' := by
  have hlt := G.lt_of_pk (s := s) (i := G.skip s j) (by omega)
  go_enter Tryz.func143, Tryz.ntmps143
  go_wp2_with (first
    | (go_at_call 149; refine hN4.mono ?_; rintro e w4 ⟨a, g, rfl, ha4, hg4, hblk4, ho4, hb4⟩)
    | (go_at_call 126; refine (take_yes wn1 b s _ _ vR 63 (by omega) hRn1 hs hP1.ci hk).mono ?_; rintro e w3 ⟨rfl, hR3, hE3⟩; have hG3 : Gr b w w3 := Kept.trans hGn1 hE3.kept; have hG13 : Gr b w1 w3 := (Kept.trans hEn0.kept (Kept.trans hEn1.kept hE3.kept)); have hP3 := hP1.step hG13 hR3 (G.skip_le s _ hlt); have hN4 := repeat_any w3 5 (bl B1 n) _ (hP3.tr.places hP3.wf n hn))
    | (go_at_call 126; refine (take_not wn0 b s _ _ vR 43 (by omega) hRn0 hs hP1.ci (by show ¬ G.pk s (G.skip s j) = (43 : Int); rw [hk]; decide)).mono ?_; rintro e wn1 ⟨rfl, hRn1, hEn1⟩; have hGn1 : Gr b w wn1 := Kept.trans hGn0 hEn1.kept)
    | (go_at_call 126; refine (take_not w1 b s _ _ vR 42 (by omega) hP1.rb hs hP1.ci (by show ¬ G.pk s (G.skip s j) = (42 : Int); rw [hk]; decide)).mono ?_; rintro e wn0 ⟨rfl, hRn0, hEn0⟩; have hGn0 : Gr b w wn0 := Kept.trans hg1 hEn0.kept)
    | (go_at_call 148; refine hA.mono ?_; rintro e w1 ⟨hg1, I1, B1, rfl, hP1, hX1⟩))
  go_ret
  have hP4 := hP3.below hb4
  have hsz : G.sz T' n = min (G.sizeOf T' [n]) 101 := by
    have := hP3.tr.sz_le hP3.wf n hn
    simp [G.sizeOf]
    omega
  obtain ⟨I', hP5, hX5⟩ := hP4.inner (w0 := w3) (k := 63) (ps := [n]) hP3.base.b hP3.base.m ha4 (.inr ⟨by decide, rfl⟩) (by simpa using hn) (by rw [← hsz]; exact hblk4) (own_new_base ho4 hg4)
  refine ⟨hG3.trans (Gr.below hb4), I', B1 ++ [a], ?_, hP5, hX1.trans hG3.size hX5⟩
  rw [← hP3.tr.len, bl_new]
  rfl

set_option maxRecDepth 100000 in
set_option maxHeartbeats 1000000 in
theorem item_plain (w : World) (b : Nat) (s : ByteArray) (c : C) (bm : Nat) (vR : Value) (I : Nat → Prop) (B : List Nat) (E : List (ByteArray × Nat)) (n j : Nat) (T' : List PNode) (hs : s.size ≤ 2000) (hrep : G.repeats (G.pk s (G.skip s j)) = false) (hA : Calls Tryz.prog 148 #[.pointer (some ⟨b, 0, none⟩)] w fun e w' => RPost w b s c bm vR I B E (.ok n j T') e w') :
    Calls Tryz.prog 143 #[.pointer (some ⟨b, 0, none⟩)] w fun e w' => RPost w b s c bm vR I B E (.ok n (G.skip s j) T') e w' := by
  have hk : ∀ q : Nat, (q = 42 ∨ q = 43 ∨ q = 63) → ¬ G.pk s (G.skip s j) = (q : Int) := by
    intro q hq e
    simp only [G.repeats, decide_eq_false_iff_not] at hrep
    omega
  go_enter Tryz.func143, Tryz.ntmps143
  go_wp2_with (first
    | (go_at_call 126; refine (take_not wn1 b s _ _ vR 63 (by omega) hRn1 hs hP1.ci (hk 63 (by decide))).mono ?_; rintro e wn2 ⟨rfl, hRn2, hEn2⟩; have hGn2 : Gr b w wn2 := Kept.trans hGn1 hEn2.kept)
    | (go_at_call 126; refine (take_not wn0 b s _ _ vR 43 (by omega) hRn0 hs hP1.ci (hk 43 (by decide))).mono ?_; rintro e wn1 ⟨rfl, hRn1, hEn1⟩; have hGn1 : Gr b w wn1 := Kept.trans hGn0 hEn1.kept)
    | (go_at_call 126; refine (take_not w1 b s _ _ vR 42 (by omega) hP1.rb hs hP1.ci (hk 42 (by decide))).mono ?_; rintro e wn0 ⟨rfl, hRn0, hEn0⟩; have hGn0 : Gr b w wn0 := Kept.trans hg1 hEn0.kept)
    | (go_at_call 148; refine hA.mono ?_; rintro e w1 ⟨hg1, I1, B1, rfl, hP1, hX1⟩))
  go_ret
  refine ⟨hGn2, I1, B1, rfl, ?_, hX1⟩
  rw [G.skip_skip]
  exact hP1.step (Kept.trans (Kept.trans hEn0.kept hEn1.kept) hEn2.kept) hRn2 hP1.ci

end Pr
end Go.Proofs.YtpgcidpghmoibaaGreatDoor

namespace Go.Proofs.YtpgcidpghmoibaaGreatDoor
namespace Pr
open Go.RowKit Go.Maps
open Rf (Kept)
open G (PNode)

/-- What comes of one item: a result of its own, and how the reading goes on. -/
theorem seq_item {w : World} {b : Nat} {s : ByteArray} {c : C} {bm : Nat} {vR : Value} {I : Nat → Prop} {T : List PNode} {B : List Nat} {E : List (ByteArray × Nat)} {d i : Nat} {r : G.Res} {ps : List Nat} (h : PS w b s c bm vR I T B E) (hd : c.d = d) (hci : c.i = G.skip s i) (hIH0 : d < 40 → ExprP b s bm vR E (d + 1)) (hd40 : d ≤ 40) (hR : G.R s E (.seq ps) d i T r) (ha : G.atomic (G.pk s c.i) = true) :
    ∃ ri, (Calls Tryz.prog 143 #[.pointer (some ⟨b, 0, none⟩)] w fun e w' => RPost w b s c bm vR I B E ri e w') ∧
      ((∃ er p, ri = .err er p ∧ r = .err er p) ∨ ∃ n j T', ri = .ok n j T' ∧ n < T'.length ∧ T.length ≤ T'.length ∧ c.i < j ∧ j ≤ s.size ∧ G.R s E (.seq (ps ++ [n])) d j T' r) := by
  rw [hci] at ha
  have hA : ∀ ra, G.R s E .atom d (G.skip s i) T ra → _ := fun ra hra => atom_any w b s c bm vR I T B E d ra h hd (by rw [hci]; exact hra) hIH0 hd40
  cases hR with
  | seqErr _ h2 => exact ⟨_, item_err w b s c bm vR I B E _ _ (hA _ h2), .inl ⟨_, _, rfl, rfl⟩⟩
  | seqRep h0 h2 h3 h4 =>
    rename_i n j T'
    obtain ⟨f1, f2, f3, f4, ⟨X, hX⟩, f6⟩ := h2.fine (by rw [← hci]; exact h.ci) h.wf (by simp [G.NT.parts]) (by simp [G.NT.ranges]) h.el
    have hg := G.skip_ge s j
    have hl := G.lt_of_pk (s := s) (i := G.skip s j) (by simp only [G.repeats, decide_eq_true_eq] at h3; omega)
    have hk : G.pk s (G.skip s j) = 42 ∨ G.pk s (G.skip s j) = 43 ∨ G.pk s (G.skip s j) = 63 := by simpa [G.repeats] using h3
    have fin : ∀ k : Nat, (G.pk s (G.skip s j)).toNat = k → (Calls Tryz.prog 143 #[.pointer (some ⟨b, 0, none⟩)] w fun e w' => RPost w b s c bm vR I B E (.ok T'.length (G.skip s j + 1) (T' ++ [G.mk T' k [] false [n]])) e w') → ∃ ri, (Calls Tryz.prog 143 #[.pointer (some ⟨b, 0, none⟩)] w fun e w' => RPost w b s c bm vR I B E ri e w') ∧
        ((∃ er p, ri = .err er p ∧ r = .err er p) ∨ ∃ n j T', ri = .ok n j T' ∧ n < T'.length ∧ T.length ≤ T'.length ∧ c.i < j ∧ j ≤ s.size ∧ G.R s E (.seq (ps ++ [n])) d j T' r) := by
      intro k hk hC
      refine ⟨_, hC, .inr ⟨_, _, _, rfl, by simp, by rw [hX]; simp, by omega, hl, ?_⟩⟩
      rw [hk] at h4
      exact h4
    rcases hk with hk | hk | hk
    · exact fin 42 (by rw [hk]; rfl) (item_star w b s c bm vR I B E n j T' h.sz f3 hk (hA _ h2))
    · exact fin 43 (by rw [hk]; rfl) (item_plus w b s c bm vR I B E n j T' h.sz f3 hk (hA _ h2))
    · exact fin 63 (by rw [hk]; rfl) (item_maybe w b s c bm vR I B E n j T' h.sz f3 hk (hA _ h2))
  | seqItem h0 h2 h3 h4 =>
    rename_i n j T'
    obtain ⟨f1, f2, f3, f4, ⟨X, hX⟩, f6⟩ := h2.fine (by rw [← hci]; exact h.ci) h.wf (by simp [G.NT.parts]) (by simp [G.NT.ranges]) h.el
    have hg := G.skip_ge s j
    simp only [G.NT.sl, G.NT.sr] at f6
    have hxl : T.length ≤ T'.length := by rw [hX]; simp
    exact ⟨_, item_plain w b s c bm vR I B E n j T' h.sz h3 (hA _ h2), .inr ⟨_, _, _, rfl, f3, by rw [hX]; simp, by omega, G.skip_le s j f2, h4⟩⟩
  | seqForm h1 => rw [ha] at h1; cases h1
  | seqEnd h1 _ => rw [ha] at h1; cases h1

/-- A sequence ends behind where it begins. -/
theorem seq_adv {s : ByteArray} {E : List (ByteArray × Nat)} {d i n j : Nat} {T T' : List PNode} (h : G.R s E (.seq []) d i T (.ok n j T')) (hi : i ≤ s.size) (hT : G.WF T) (hE : ∀ x ∈ E, x.2 < T.length) : G.skip s i ≤ j := by
  have hsi := G.skip_le s i hi
  cases h with
  | seqRep h0 h2 h3 h4 =>
    rename_i n1 j1 T1
    obtain ⟨f1, f2, f3, f4, ⟨X, hX⟩, _⟩ := h2.fine hsi hT (by simp [G.NT.parts]) (by simp [G.NT.ranges]) hE
    have hg := G.skip_ge s j1
    have hk : (G.pk s (G.skip s j1)).toNat = 42 ∨ (G.pk s (G.skip s j1)).toNat = 43 ∨ (G.pk s (G.skip s j1)).toNat = 63 := by
      simp only [G.repeats, decide_eq_true_eq] at h3
      omega
    have hl := G.lt_of_pk (s := s) (i := G.skip s j1) (by simp only [G.repeats, decide_eq_true_eq] at h3; omega)
    have := (h4.fine hl (f4.snoc _ [] false [n1] (by simpa using f3) (by simp) (.inr (.inr ⟨hk, rfl⟩))) (by simp [G.NT.parts]) (by simp [G.NT.ranges]) (fun x hx => by have := hE x hx; rw [hX]; simp; omega)).1
    omega
  | seqItem h0 h2 h3 h4 =>
    rename_i n1 j1 T1
    obtain ⟨f1, f2, f3, f4, ⟨X, hX⟩, _⟩ := h2.fine hsi hT (by simp [G.NT.parts]) (by simp [G.NT.ranges]) hE
    have hg := G.skip_ge s j1
    have := (h4.fine (G.skip_le s j1 f2) f4 (by simpa [G.NT.parts] using f3) (by simp [G.NT.ranges]) (fun x hx => by have := hE x hx; rw [hX]; simp; omega)).1
    omega
  | seqEnd _ h2 => exact absurd rfl h2

def SqInv (w0 : World) (b : Nat) (s : ByteArray) (c : C) (bm : Nat) (vR : Value) (I : Nat → Prop) (B : List Nat) (E : List (ByteArray × Nat)) (d : Nat) (r : G.Res) (nt : List Nat → G.NT) (v : Value) (wr : World) : Prop :=
  ∃ ps T1 B1 I1 i1, PS wr b s { c with i := G.skip s i1 } bm vR I1 T1 B1 E ∧ LocP wr w0.heap.size I1 B1 v ps ∧ Ext w0 I B I1 B1 ∧ Gr b w0 wr ∧ (∀ p ∈ ps, p < T1.length) ∧ ps.length ≤ G.skip s i1 ∧ G.R s E (nt ps) d i1 T1 r

theorem lt_snoc2 {T1 T' : List PNode} {ps : List Nat} {n : Nat} (h : ∀ p ∈ ps, p < T1.length) (hT : T1.length ≤ T'.length) (hn : n < T'.length) : ∀ p ∈ ps ++ [n], p < T'.length := by
  intro p hp
  rcases List.mem_append.1 hp with hp | hp
  · have := h p hp
    omega
  · simp only [List.mem_singleton] at hp
    subst hp
    exact hn

set_option maxRecDepth 100000 in
set_option maxHeartbeats 4000000 in
theorem seq_any (w : World) (b : Nat) (s : ByteArray) (c : C) (bm : Nat) (vR : Value) (I : Nat → Prop) (T : List PNode) (B : List Nat) (E : List (ByteArray × Nat)) (d i : Nat) (r : G.Res) (h : PS w b s c bm vR I T B E) (hd : c.d = d) (hci : c.i = G.skip s i) (hIH0 : d < 40 → ExprP b s bm vR E (d + 1)) (hd40 : d ≤ 40) (hr : G.R s E (.seq []) d i T r) :
    Calls Tryz.prog 128 #[.pointer (some ⟨b, 0, none⟩)] w fun e w' => RPost w b s c bm vR I B E r e w' := by
  obtain ⟨i0, hi, hz0, hz1, hz2⟩ := info_parts infoP
  have hs := h.sz
  have hB := h.base
  have HD : Hid (c.d = d) := hd
  clear hd
  go_enter Tryz.func128, Tryz.ntmps128
  go_wp2
  go_loopw [3] (fun v wr => SqInv w b s c bm vR I B E d r .seq v wr) (fun _ wr => s.size - posOf b wr)
  case atStart =>
    refine ⟨[], T, B, I, i, ?_, LocP.nil _ _ _ _, Ext.refl _ _ _, Kept.refl _ w, by simp, by simp, hr⟩
    have e : ({ c with i := G.skip s i } : C) = c := by rw [← hci]
    rw [e]
    exact h
  case round =>
    obtain ⟨ps, T1, B1, I1, i1, hP, hL, hX, hG, hps, hpl, hR⟩ := hrel
    have HP : Hid (posOf b wr = G.skip s i1) := hP.rb.pos
    have hi1 : G.skip s i1 ≤ s.size := hP.ci
    have hszl := hG.size
    obtain ⟨pa, pc, hpe⟩ := Rf.own_len hL.own
    subst hpe
    have hAh := ahead_any wr b s _ _ vR hP.rb hs hi1
    change Calls _ _ _ _ (fun e w' => e = .returned (.bool (G.atomic (G.pk s (G.skip s i1)))) ∧ _) at hAh
    have hDr : ∀ n, Gr b wr (wr.drewN n) := fun n => Kept.drewN (Kept.refl _ wr) n
    have hPn : ∀ n, PS (wr.drewN n) b s { c with i := G.skip s i1 } bm vR I1 T1 B1 E := fun n => hP.step (hDr n) (hP.rb.drewN n) hP.ci
    cases hat : G.atomic (G.pk s (G.skip s i1)) with
    | false =>
      rw [hat] at hAh
      by_cases hps0 : ps.length = 0
      · have hpn : ps = [] := by simpa using hps0
        subst hpn
        have hre : r = .err 2 (G.skip s i1) := by
          cases hR with
          | seqForm _ => rfl
          | seqErr h1 _ => rw [hat] at h1; cases h1
          | seqRep h1 _ _ _ => rw [hat] at h1; cases h1
          | seqItem h1 _ _ _ => rw [hat] at h1; cases h1
          | seqEnd _ h2 => exact absurd rfl h2
        subst hre
        have hIt := item_err wr b s _ bm vR I1 B1 E _ _ (atom_none wr b s _ bm vR I1 T1 B1 E hP hat)
        clear hR hat
        go_wp2_with (go_at_call 143; refine hIt.mono ?_; rintro e w2 ⟨hg2, rfl, i2, d2, hR2⟩)
        go_ret
        exact ⟨hG.trans hg2, rfl, _, _, hR2⟩
      · have hne : ps ≠ [] := by simpa using hps0
        have hre : r = .ok T1.length (G.skip s i1) (T1 ++ [G.mk T1 113 [] false ps]) := by
          cases hR with
          | seqForm _ => exact absurd rfl hne
          | seqErr h1 _ => rw [hat] at h1; cases h1
          | seqRep h1 _ _ _ => rw [hat] at h1; cases h1
          | seqItem h1 _ _ _ => rw [hat] at h1; cases h1
          | seqEnd _ h2 => rfl
        subst hre
        have hlb : ((ps.length : Int) == 0) = false := by simpa using hps0
        clear hR hat
        go_wp2_with (first
          | (go_at_call 129; refine hJ.mono ?_; rintro e w3 ⟨I', B', rfl, hP3, hX3, hb3⟩)
          | (go_at_call 142; refine hAh.mono ?_; rintro e w2 ⟨rfl, n, rfl⟩; have hJ := join_ps w (wr.drewN n) b s _ bm vR I1 T1 B1 E 113 1 (.inl ⟨rfl, rfl⟩) _ ps (hPn n) hB hszl (hL.gr (hDr n) hB.b) hne hps (by omega)))
        go_ret
        refine ⟨(hG.trans (hDr n)).trans (Gr.below hb3), I', B', rfl, ?_, hX.trans (Nat.le_refl _) hX3⟩
        rw [G.skip_skip]
        exact hP3
    | true =>
      rw [hat] at hAh
      have hItem : ∀ n, _ := fun n => seq_item (hPn n) HD.out rfl hIH0 hd40 hR hat
      clear hR hat
      by_cases hps0 : ps.length = 0
      · have hpn : ps = [] := by simpa using hps0
        subst hpn
        obtain ⟨ri, hIt, hst⟩ := hItem 0
        change Calls _ _ _ wr _ at hIt
        go_wp2_with (first
            | (at_builtin
               refine wpList_append_own_at _ rfl (.tmp 16) (.tmp 18) 105 rfl w.heap.size 143 i0 (.pointer none) 1 8 Tryz.underlying105 hi hz0 hz1 hz2 rfl (by decide) (.slice pa ([] : List Nat).length pc) ([] : List Nat).length (ptrs B2 ([] : List Nat)) rfl (HL2.out.2.1.own.alloc _) ⟨w2.heap.size, 0, none⟩ 1 1 [pv (bl B2 n2)] rfl rfl (cell_one_new _ _ _) (fun y hy => by simp at hy; subst hy; rfl) (by unfold maxLen; omega) (by omega) (by have := hbw2; simp; omega) ?_
               intro v1 w6 hn1 hg1 _ hat1
               have HPU : Hid _ := LocP.push (n := n2) HL2.out.1 hB HL2.out.2.1 hn1 hg1 hat1
               clear hn1 hg1 hat1)
            | (go_at_call 143
               refine hIt.mono ?_
               rintro e w2 ⟨hg2, hm2⟩
               have hG2 : Gr b wr w2 := hg2
               have hbw2 : w.heap.size ≤ w2.heap.size := Nat.le_trans hszl hG2.size
               cases ri
               case' err er pl =>
                 obtain ⟨rfl, i2, d2, hR2⟩ := hm2
                 have HE : Hid (r = .err er pl) := by
                   rcases hst with ⟨_, _, h1, h2⟩ | ⟨_, _, _, h1, _⟩
                   · cases h1; exact h2
                   · cases h1
                 clear hst
               case' ok n2 j2 T2 =>
                 obtain ⟨I2, B2, rfl, hP2, hX2⟩ := hm2
                 have hst2 : n2 < T2.length ∧ T1.length ≤ T2.length ∧ G.skip s i1 < j2 ∧ j2 ≤ s.size ∧ G.R s E (.seq (([] : List Nat) ++ [n2])) d j2 T2 r := by
                   rcases hst with ⟨_, _, h1, h2⟩ | ⟨_, _, _, h1, h2⟩
                   · cases h1
                   · cases h1; exact h2
                 have hL2 := (hL.gr hG2 hB.b).ext hX2 (fun p hp => by rw [hP.tr.len]; exact hps p hp) (fun k e => (hL.own.lt k e).2)
                 have HL2 : Hid _ := And.intro hP2 (And.intro hL2 (And.intro hX2 hst2))
                 clear hP2 hX2 hL2 hst2 hst))
        all_goals first
          | (go_ret
             rw [HE.out]
             exact ⟨hG.trans hG2, rfl, _, _, hR2⟩)
          | (obtain ⟨q1, q2, q3, q4, q5, q6, q7, q8⟩ := HL2.out
             have hgj := G.skip_ge s j2
             have hgl := G.skip_le s j2 q7
             have hQ : SqInv w b s c bm vR I B E d r .seq v1 w6 := ⟨([] : List Nat) ++ [n2], T2, B2, I2, j2, HPU.out.1, HPU.out.2.1, hX.trans hG.size (q3.low (w := wr) (Nat.le_refl _)), HPU.out.2.2 w (Nat.le_refl _) (hG.trans hG2), lt_snoc2 hps q5 q4, by simp; omega, q8⟩
             refine ⟨hQ, ?_⟩
             rw [HP.out, HPU.out.1.rb.pos]
             show s.size - G.skip s j2 < _
             omega)
      · have hlb : ((ps.length : Int) == 0) = false := by simpa using hps0
        go_wp2_with (first
            | (at_builtin
               refine wpList_append_own_at _ rfl (.tmp 16) (.tmp 18) 105 rfl w.heap.size 143 i0 (.pointer none) 1 8 Tryz.underlying105 hi hz0 hz1 hz2 rfl (by decide) (.slice pa ps.length pc) ps.length (ptrs B2 ps) rfl (HL2.out.2.1.own.alloc _) ⟨w2.heap.size, 0, none⟩ 1 1 [pv (bl B2 n2)] rfl rfl (cell_one_new _ _ _) (fun y hy => by simp at hy; subst hy; rfl) (by unfold maxLen; omega) (by omega) (by have := hbw2; simp; omega) ?_
               intro v1 w6 hn1 hg1 _ hat1
               have HPU : Hid _ := LocP.push (n := n2) HL2.out.1 hB HL2.out.2.1 hn1 hg1 hat1
               clear hn1 hg1 hat1)
            | (go_at_call 143
               refine hIt.mono ?_
               rintro e w2 ⟨hg2, hm2⟩
               have hG2 : Gr b wr w2 := ((hDr n).trans hg2)
               have hbw2 : w.heap.size ≤ w2.heap.size := Nat.le_trans hszl hG2.size
               cases ri
               case' err er pl =>
                 obtain ⟨rfl, i2, d2, hR2⟩ := hm2
                 have HE : Hid (r = .err er pl) := by
                   rcases hst with ⟨_, _, h1, h2⟩ | ⟨_, _, _, h1, _⟩
                   · cases h1; exact h2
                   · cases h1
                 clear hst
               case' ok n2 j2 T2 =>
                 obtain ⟨I2, B2, rfl, hP2, hX2⟩ := hm2
                 have hst2 : n2 < T2.length ∧ T1.length ≤ T2.length ∧ G.skip s i1 < j2 ∧ j2 ≤ s.size ∧ G.R s E (.seq (ps ++ [n2])) d j2 T2 r := by
                   rcases hst with ⟨_, _, h1, h2⟩ | ⟨_, _, _, h1, h2⟩
                   · cases h1
                   · cases h1; exact h2
                 have hL2 := (hL.gr hG2 hB.b).ext hX2 (fun p hp => by rw [hP.tr.len]; exact hps p hp) (fun k e => (hL.own.lt k e).2)
                 have HL2 : Hid _ := And.intro hP2 (And.intro hL2 (And.intro hX2 hst2))
                 clear hP2 hX2 hL2 hst2 hst)
            | (go_at_call 142; refine hAh.mono ?_; rintro e wn ⟨rfl, n, rfl⟩; obtain ⟨ri, hIt, hst⟩ := hItem n))
        all_goals first
          | (go_ret
             rw [HE.out]
             exact ⟨hG.trans hG2, rfl, _, _, hR2⟩)
          | (obtain ⟨q1, q2, q3, q4, q5, q6, q7, q8⟩ := HL2.out
             have hgj := G.skip_ge s j2
             have hgl := G.skip_le s j2 q7
             have hQ : SqInv w b s c bm vR I B E d r .seq v1 w6 := ⟨ps ++ [n2], T2, B2, I2, j2, HPU.out.1, HPU.out.2.1, hX.trans hG.size (q3.low (w := wr) (Nat.le_refl _)), HPU.out.2.2 w (Nat.le_refl _) (hG.trans hG2), lt_snoc2 hps q5 q4, by simp; omega, q8⟩
             refine ⟨hQ, ?_⟩
             rw [HP.out, HPU.out.1.rb.pos]
             show s.size - G.skip s j2 < _
             omega)


set_option maxRecDepth 100000 in
set_option maxHeartbeats 4000000 in
theorem expr_at (b : Nat) (s : ByteArray) (bm : Nat) (vR : Value) (E : List (ByteArray × Nat)) (d : Nat) (hd40 : d ≤ 40) (hIH0 : d < 40 → ExprP b s bm vR E (d + 1)) : ExprP b s bm vR E d := by
  intro w c I T B i r h hd hci hr
  obtain ⟨i0, hi, hz0, hz1, hz2⟩ := info_parts infoP
  have hs := h.sz
  have hB := h.base
  have HD : Hid (c.d = d) := hd
  clear hd
  go_enter Tryz.func102, Tryz.ntmps102
  go_wp2
  go_loopw [3] (fun v wr => SqInv w b s c bm vR I B E d r .expr v wr) (fun _ wr => s.size - posOf b wr)
  case atStart =>
    refine ⟨[], T, B, I, i, ?_, LocP.nil _ _ _ _, Ext.refl _ _ _, Kept.refl _ w, by simp, by simp, hr⟩
    have e : ({ c with i := G.skip s i } : C) = c := by rw [← hci]
    rw [e]
    exact h
  case round =>
    obtain ⟨ps, T1, B1, I1, i1, hP, hL, hX, hG, hps, hpl, hR⟩ := hrel
    have HP : Hid (posOf b wr = G.skip s i1) := hP.rb.pos
    have hi1 : G.skip s i1 ≤ s.size := hP.ci
    have hszl := hG.size
    obtain ⟨pa, pc, hpe⟩ := Rf.own_len hL.own
    subst hpe
    have hcase : (∃ er p, r = .err er p ∧ G.R s E (.seq []) d i1 T1 (.err er p)) ∨ ∃ n j T', G.R s E (.seq []) d i1 T1 (.ok n j T') ∧ ((G.pk s (G.skip s j) = 124 ∧ G.R s E (.expr (ps ++ [n])) d (G.skip s j + 1) T' r) ∨ (G.pk s (G.skip s j) ≠ 124 ∧ r = .ok T'.length (G.skip s j) (T' ++ [G.mk T' 99 [] false (ps ++ [n])]))) := by
      cases hR with
      | exprErr h1 => exact .inl ⟨_, _, rfl, h1⟩
      | exprMore h1 h2 h3 => exact .inr ⟨_, _, _, h1, .inl ⟨h2, h3⟩⟩
      | exprEnd h1 h2 => exact .inr ⟨_, _, _, h1, .inr ⟨h2, rfl⟩⟩
    clear hR
    rcases hcase with ⟨er, pl, rfl, hR⟩ | ⟨n2, j2, T2, hR, hst⟩
    · have hSq := seq_any wr b s _ bm vR I1 T1 B1 E d i1 _ hP HD.out rfl hIH0 hd40 hR
      clear hR
      go_wp2_with (go_at_call 128; refine hSq.mono ?_; rintro e w2 ⟨hg2, rfl, i2, d2, hR2⟩)
      go_ret
      exact ⟨hG.trans hg2, rfl, _, _, hR2⟩
    · have hSq := seq_any wr b s _ bm vR I1 T1 B1 E d i1 _ hP HD.out rfl hIH0 hd40 hR
      have hi0 : i1 ≤ s.size := Nat.le_trans (G.skip_ge s i1) hi1
      obtain ⟨f1, f2, f3, f4, ⟨X, hXX⟩, f6⟩ := hR.fine hi0 hP.wf (by simp [G.NT.parts]) (by simp [G.NT.ranges]) hP.el
      have hxl : T1.length ≤ T2.length := by rw [hXX]; simp
      have hgj := G.skip_ge s j2
      have hgl := G.skip_le s j2 f2
      have hadv : G.skip s i1 ≤ G.skip s j2 := Nat.le_trans (seq_adv hR hi0 hP.wf hP.el) hgj
      have HXX : Hid _ := hXX
      clear hR hXX
      rcases hst with ⟨h124, hR2⟩ | ⟨h124, rfl⟩
      · have hlt := G.lt_of_pk (s := s) (i := G.skip s j2) (by omega)
        have HR2 : Hid _ := hR2
        clear hR2
        go_wp2_with (first
          | (go_at_call 126; refine (take_yes w6 b s _ _ vR 124 (by omega) HPU.out.1.rb hs hgl h124).mono ?_; rintro e w7 ⟨rfl, hR7, hE7⟩)
          | (at_builtin
             refine wpList_append_own_at _ rfl (.tmp 9) (.tmp 11) 105 rfl w.heap.size 143 i0 (.pointer none) 1 8 Tryz.underlying105 hi hz0 hz1 hz2 rfl (by decide) (.slice pa ps.length pc) ps.length (ptrs B2 ps) rfl (HL2.out.2.1.own.alloc _) ⟨w2.heap.size, 0, none⟩ 1 1 [pv (bl B2 n2)] rfl rfl (cell_one_new _ _ _) (fun y hy => by simp at hy; subst hy; rfl) (by unfold maxLen; omega) (by omega) (by have := hbw2; simp; omega) ?_
             intro v1 w6 hn1 hg1 _ hat1
             have HPU : Hid _ := LocP.push (n := n2) HL2.out.1 hB HL2.out.2.1 hn1 hg1 hat1
             clear hn1 hg1 hat1)
          | (go_at_call 128; refine hSq.mono ?_; rintro e w2 ⟨hg2, I2, B2, rfl, hP2, hX2⟩; have hbw2 : w.heap.size ≤ w2.heap.size := Nat.le_trans hszl hg2.size; have hL2 := (hL.gr hg2 hB.b).ext hX2 (fun p hp => by rw [hP.tr.len]; exact hps p hp) (fun k e => (hL.own.lt k e).2); have HL2 : Hid _ := And.intro hP2 (And.intro hL2 hX2); clear hP2 hX2 hL2))
        obtain ⟨q1, q2, q3⟩ := HL2.out
        have hG6 := HPU.out.2.2 w (Nat.le_refl _) (hG.trans hg2)
        have hgs := G.skip_ge s (G.skip s j2 + 1)
        have hP7 := HPU.out.1.step hE7.kept hR7 (G.skip_le s _ hlt)
        have hQ : SqInv w b s c bm vR I B E d r .expr v1 w7 := ⟨ps ++ [n2], T2, B2, I2, G.skip s j2 + 1, hP7, HPU.out.2.1.gr hE7.kept hB.b, hX.trans hG.size q3, hG6.trans hE7.kept, lt_snoc2 hps hxl f3, by simp; omega, HR2.out⟩
        refine ⟨hQ, ?_⟩
        rw [HP.out, hP7.rb.pos]
        show s.size - G.skip s (G.skip s j2 + 1) < _
        omega
      · go_wp2_with (first
          | (go_at_call 129; refine hJ.mono ?_; rintro e w8 ⟨I', B', rfl, hP8, hX8, hb8⟩)
          | (go_at_call 126; refine (take_not w6 b s _ _ vR 124 (by omega) HPU.out.1.rb hs hgl h124).mono ?_; rintro e w7 ⟨rfl, hR7, hE7⟩; have hP7 := HPU.out.1.step hE7.kept hR7 hgl; have hG6 := HPU.out.2.2 w (Nat.le_refl _) (hG.trans hg2); have hJ := join_ps w w7 b s _ bm vR I2 T2 B2 E 99 2 (.inr ⟨rfl, rfl⟩) v1 (ps ++ [n2]) hP7 hB (hG6.trans hE7.kept).size (HPU.out.2.1.gr hE7.kept hB.b) (by simp) (lt_snoc2 hps hxl f3) (by simp; omega))
          | (at_builtin
             refine wpList_append_own_at _ rfl (.tmp 9) (.tmp 11) 105 rfl w.heap.size 143 i0 (.pointer none) 1 8 Tryz.underlying105 hi hz0 hz1 hz2 rfl (by decide) (.slice pa ps.length pc) ps.length (ptrs B2 ps) rfl (HL2.out.2.1.own.alloc _) ⟨w2.heap.size, 0, none⟩ 1 1 [pv (bl B2 n2)] rfl rfl (cell_one_new _ _ _) (fun y hy => by simp at hy; subst hy; rfl) (by unfold maxLen; omega) (by omega) (by have := hbw2; simp; omega) ?_
             intro v1 w6 hn1 hg1 _ hat1
             have HPU : Hid _ := LocP.push (n := n2) HL2.out.1 hB HL2.out.2.1 hn1 hg1 hat1
             clear hn1 hg1 hat1)
          | (go_at_call 128; refine hSq.mono ?_; rintro e w2 ⟨hg2, I2, B2, rfl, hP2, hX2⟩; have hbw2 : w.heap.size ≤ w2.heap.size := Nat.le_trans hszl hg2.size; have hL2 := (hL.gr hg2 hB.b).ext hX2 (fun p hp => by rw [hP.tr.len]; exact hps p hp) (fun k e => (hL.own.lt k e).2); have HL2 : Hid _ := And.intro hP2 (And.intro hL2 hX2); clear hP2 hX2 hL2))
        go_ret
        refine ⟨(hG6.trans hE7.kept).trans (Gr.below hb8), I', B', rfl, ?_, hX.trans (Nat.le_refl _) ((HL2.out.2.2.low hszl).trans (Nat.le_refl _) hX8)⟩
        rw [G.skip_skip]
        exact hP8

/-- expr, however many brackets are open. -/
theorem expr_all (b : Nat) (s : ByteArray) (bm : Nat) (vR : Value) (E : List (ByteArray × Nat)) : ∀ (k d : Nat), d ≤ 40 → 40 - d ≤ k → ExprP b s bm vR E d
  | 0, d, h1, _ => expr_at b s bm vR E d h1 (fun h => by omega)
  | k + 1, d, h1, _ => expr_at b s bm vR E d h1 (fun h => expr_all b s bm vR E k (d + 1) (by omega) (by omega))

end Pr
end Go.Proofs.YtpgcidpghmoibaaGreatDoor
