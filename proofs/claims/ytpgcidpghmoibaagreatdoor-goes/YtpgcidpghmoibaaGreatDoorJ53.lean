/-
  THE LAW's HELPER moves: the two cursors, told one thing, answer alike and stand alike. Conditions: both cursors have the same boundaries and stand at the same place; neither lies in the other's memory.
  THE WALK of the statement Goes' law: it answers true of every source, text and list of moves. Conditions: the library's tables lie in memory as the text lays them; the moves are pairs of numbers that lie in memory.
-/
import Derived.Test.YtpgcidpghmoibaaGreatDoorJ52
import Derived.Lib.QuietBelow
import Derived.Test.YtpgcidpghmoibaaGreatDoorJ45
namespace Go.Proofs.YtpgcidpghmoibaaGreatDoor
namespace Pr
open Go.RowKit
open Cs

/-- Two cursors, the program's and the reference's, that stand alike. -/
structure Two (w : World) (c d : Nat) (v u : Value) (B : List Nat) (a : Nat) : Prop where
  p : Cu 131 w c v B a
  r : Cu 84 w d u B a
  cd : c ≠ d
  vd : v.ownBlock ≠ some d
  uc : u.ownBlock ≠ some c
theorem Two.below {w w' : World} {c d : Nat} {v u : Value} {B : List Nat} {a : Nat} (h : Two w c d v u B a) (hb : Below w.heap.size w w') : Two w' c d v u B a := ⟨h.p.below hb, h.r.below hb, h.cd, h.vd, h.uc⟩
/-- What a move leaves. -/
def MvPost (w : World) (c d : Nat) (v u : Value) (B : List Nat) (e : Ending) (w' : World) : Prop :=
  e = .returned (.bool true) ∧ (∃ a', Two w' c d v u B a') ∧ Rf.Kept (fun k => k ≠ c ∧ k ≠ d) w w'
theorem Cu.kept {t : TypeId} {w w' : World} {c k : Nat} {v : Value} {B : List Nat} {a : Nat} (h : Cu t w c v B a) (hk : Rf.Kept (fun j => j ≠ k) w w') (h1 : c ≠ k) (h2 : v.ownBlock ≠ some k) : Cu t w' c v B a :=
  h.same fun j e => hk.block j (h.lt j e) (by
    rintro rfl
    rcases e with e | e
    · exact h1 e.symm
    · exact h2 e)
theorem kept_cell {w w' : World} {k x i : Nat} {u : Value} (hk : Rf.Kept (fun j => j ≠ k) w w') (hx : x < w.heap.size) (hxk : x ≠ k) (hc : w.cell? ⟨x, i, none⟩ = some u) : w'.cell? ⟨x, i, none⟩ = some u := by
  have := hk.block x hx hxk
  unfold World.cell? at hc ⊢
  rw [this]
  exact hc
theorem cur_grown {w : World} {c : Nat} {v : Value} {B : List Nat} {a : Nat} (h : Cu 131 w c v B a) (d : Nat) (os : Array Obj) : Calls Tryz.prog 32 #[pv c] (Sort.grow (redrawn w d) os) fun e w'' => e = .returned (.int .i64 (a : Int)) ∧ ∃ p : Regrown, w'' = Sort.grow (redrawn w p.d) p.os :=
  Calls.regrown_of ((pcur_any _ c v B a (h.below (below_regrown w d os))).mono (fun _ _ ⟨h1, h2⟩ => ⟨h1, by rw [h2]; exact Below.refl _ _⟩))

set_option maxRecDepth 100000 in
set_option maxHeartbeats 2000000 in
theorem moves_first (w : World) (c d : Nat) (v u : Value) (B : List Nat) (a : Nat) (h : Two w c d v u B a) (hB : Bn B) (i : Int) :
    Calls Tryz.prog 36 #[pv c, pv d, .agg #[.int .i64 1, .int .i64 i]] w fun e w' => MvPost w c d v u B e w' := by
  obtain ⟨w1, hw1⟩ : ∃ w1, w1 = w.alloc (.cells #[.int .i64 1, .int .i64 i] 82) := ⟨_, rfl⟩
  have hb1 : Below w.heap.size w w1 := by rw [hw1]; exact (Below.refl _ _).alloc (Nat.le_refl _) _
  have hm := heap_alloc_new w (.cells #[.int .i64 1, .int .i64 i] 82)
  rw [← hw1] at hm
  have m0 := Rf.cell_blk hm 0 (.int .i64 1) rfl
  have m1 := Rf.cell_blk hm 1 (.int .i64 i) rfl
  have hml := lt_of_block hm
  have h1 := h.below hb1
  have hcw := lt_of_block h.p.blk
  have hdw := lt_of_block h.r.blk
  clear hm
  unfold MvPost
  go_enter Tryz.func36, Tryz.ntmps36
  go_wp2_with fail
  rw [← hw1]
  clear hw1
  refine (pfirst_any w1 c v B a h1.p hB).mono ?_
  rintro e w2 ⟨rfl, hp2, k2⟩
  have m1' := kept_cell k2 hml (by omega) m1
  have hr2 := Cu.kept h1.r k2 (fun e => h.cd e.symm) h.uc
  clear m0 m1
  go_wp2_with fail
  refine (Rf.first_any w2 d u B a hr2).mono ?_
  rintro e w3 ⟨rfl, hr3, k3⟩
  have hp3 := Cu.kept hp2 k3 h.cd h.vd
  have hK : Rf.Kept (fun k => k ≠ c ∧ k ≠ d) w w3 := ((Rf.Kept.of_below hb1).trans (k2.mono (fun _ _ e => e.1))).trans (k3.mono (fun _ _ e => e.2))
  clear m1' hr2 hp2 k2 k3 h1
  have hN := cur_grown hp3
  have q1 : ∀ d' os, (Sort.grow (redrawn w3 d') os).cell? ⟨d, 1, none⟩ = some (.int .i64 ((G.stand a 0) : Int)) := fun d' os => cell_regrown (Rf.cell_blk hr3.blk 1 _ rfl) d' os
  have HE : Hid _ := And.intro hp3 (And.intro hr3 hK)
  clear hp3 hr3 hK
  generalize hat : (((G.stand a 0) : Nat) : Int) = at' at hN q1
  clear hat
  go_wp2_with fail
  refine wp_region_quiet_below (by kernel_rfl) (by kernel_rfl) ?_
  repeat (first | go_big_quiet_step (exact hN _ _) | quiet_step (exact hN _ _))
  refine wpQuiet_nil ?_
  intro _ hw'
  obtain ⟨⟨dq, osq⟩, hw''⟩ := hw'
  subst hw''
  go_wp2
  go_ret
  have hb := below_regrown w3 dq osq
  exact ⟨rfl, ⟨(G.stand a 0), ⟨HE.out.1.below hb, HE.out.2.1.below hb, h.cd, h.vd, h.uc⟩⟩, HE.out.2.2.trans (Rf.Kept.of_below hb)⟩

set_option maxRecDepth 100000 in
set_option maxHeartbeats 2000000 in
theorem moves_last (w : World) (c d : Nat) (v u : Value) (B : List Nat) (a : Nat) (h : Two w c d v u B a) (hB : Bn B) (i : Int) :
    Calls Tryz.prog 36 #[pv c, pv d, .agg #[.int .i64 2, .int .i64 i]] w fun e w' => MvPost w c d v u B e w' := by
  obtain ⟨w1, hw1⟩ : ∃ w1, w1 = w.alloc (.cells #[.int .i64 2, .int .i64 i] 82) := ⟨_, rfl⟩
  have hb1 : Below w.heap.size w w1 := by rw [hw1]; exact (Below.refl _ _).alloc (Nat.le_refl _) _
  have hm := heap_alloc_new w (.cells #[.int .i64 2, .int .i64 i] 82)
  rw [← hw1] at hm
  have m0 := Rf.cell_blk hm 0 (.int .i64 2) rfl
  have m1 := Rf.cell_blk hm 1 (.int .i64 i) rfl
  have hml := lt_of_block hm
  have h1 := h.below hb1
  have hcw := lt_of_block h.p.blk
  have hdw := lt_of_block h.r.blk
  clear hm
  unfold MvPost
  have hpos := hB.pos
  have hz : B[B.length - 1]? = some (B[B.length - 1]'(by omega)) := List.getElem?_eq_getElem _
  generalize B[B.length - 1]'(by omega) = z at hz
  go_enter Tryz.func36, Tryz.ntmps36
  go_wp2_with fail
  rw [← hw1]
  clear hw1
  refine (plast_any w1 c v B a z h1.p hB hz).mono ?_
  rintro e w2 ⟨rfl, hp2, k2⟩
  have m1' := kept_cell k2 hml (by omega) m1
  have hr2 := Cu.kept h1.r k2 (fun e => h.cd e.symm) h.uc
  clear m0 m1
  go_wp2_with fail
  refine (Rf.rlast_any w2 d u B a z hr2 hB hz).mono ?_
  rintro e w3 ⟨rfl, hr3, k3⟩
  have hp3 := Cu.kept hp2 k3 h.cd h.vd
  have hK : Rf.Kept (fun k => k ≠ c ∧ k ≠ d) w w3 := ((Rf.Kept.of_below hb1).trans (k2.mono (fun _ _ e => e.1))).trans (k3.mono (fun _ _ e => e.2))
  clear m1' hr2 hp2 k2 k3 h1
  have hN := cur_grown hp3
  have q1 : ∀ d' os, (Sort.grow (redrawn w3 d') os).cell? ⟨d, 1, none⟩ = some (.int .i64 ((G.stand a (z : Int)) : Int)) := fun d' os => cell_regrown (Rf.cell_blk hr3.blk 1 _ rfl) d' os
  have HE : Hid _ := And.intro hp3 (And.intro hr3 hK)
  clear hp3 hr3 hK
  generalize hat : (((G.stand a (z : Int)) : Nat) : Int) = at' at hN q1
  clear hat
  go_wp2_with fail
  refine wp_region_quiet_below (by kernel_rfl) (by kernel_rfl) ?_
  repeat (first | go_big_quiet_step (exact hN _ _) | quiet_step (exact hN _ _))
  refine wpQuiet_nil ?_
  intro _ hw'
  obtain ⟨⟨dq, osq⟩, hw''⟩ := hw'
  subst hw''
  go_wp2
  go_ret
  have hb := below_regrown w3 dq osq
  exact ⟨rfl, ⟨(G.stand a (z : Int)), ⟨HE.out.1.below hb, HE.out.2.1.below hb, h.cd, h.vd, h.uc⟩⟩, HE.out.2.2.trans (Rf.Kept.of_below hb)⟩

set_option maxRecDepth 100000 in
set_option maxHeartbeats 2000000 in
theorem moves_next (w : World) (c d : Nat) (v u : Value) (B : List Nat) (a : Nat) (h : Two w c d v u B a) (hB : Bn B) (i : Int) :
    Calls Tryz.prog 36 #[pv c, pv d, .agg #[.int .i64 3, .int .i64 i]] w fun e w' => MvPost w c d v u B e w' := by
  obtain ⟨w1, hw1⟩ : ∃ w1, w1 = w.alloc (.cells #[.int .i64 3, .int .i64 i] 82) := ⟨_, rfl⟩
  have hb1 : Below w.heap.size w w1 := by rw [hw1]; exact (Below.refl _ _).alloc (Nat.le_refl _) _
  have hm := heap_alloc_new w (.cells #[.int .i64 3, .int .i64 i] 82)
  rw [← hw1] at hm
  have m0 := Rf.cell_blk hm 0 (.int .i64 3) rfl
  have m1 := Rf.cell_blk hm 1 (.int .i64 i) rfl
  have hml := lt_of_block hm
  have h1 := h.below hb1
  have hcw := lt_of_block h.p.blk
  have hdw := lt_of_block h.r.blk
  clear hm
  unfold MvPost
  go_enter Tryz.func36, Tryz.ntmps36
  go_wp2_with fail
  rw [← hw1]
  clear hw1
  refine (pnext_any w1 c v B a h1.p hB).mono ?_
  rintro e w2 ⟨r, hr, rfl, hp2, k2⟩
  have m1' := kept_cell k2 hml (by omega) m1
  have hr2 := Cu.kept h1.r k2 (fun e => h.cd e.symm) h.uc
  clear m0 m1
  go_wp2_with fail
  refine (Rf.next_any w2 d u B a hr2 hB).mono ?_
  rintro e w3 ⟨r', hr', rfl, hr3, k3⟩
  obtain rfl := hr.one hr'
  have hp3 := Cu.kept hp2 k3 h.cd h.vd
  have hK : Rf.Kept (fun k => k ≠ c ∧ k ≠ d) w w3 := ((Rf.Kept.of_below hb1).trans (k2.mono (fun _ _ e => e.1))).trans (k3.mono (fun _ _ e => e.2))
  clear m1' hr2 hp2 k2 k3 h1
  have hN := cur_grown hp3
  have q1 : ∀ d' os, (Sort.grow (redrawn w3 d') os).cell? ⟨d, 1, none⟩ = some (.int .i64 ((G.stand a r) : Int)) := fun d' os => cell_regrown (Rf.cell_blk hr3.blk 1 _ rfl) d' os
  have HE : Hid _ := And.intro hp3 (And.intro hr3 hK)
  clear hp3 hr3 hK
  generalize hat : (((G.stand a r) : Nat) : Int) = at' at hN q1
  clear hat
  go_wp2_with fail
  refine wp_region_quiet_below (by kernel_rfl) (by kernel_rfl) ?_
  repeat (first | go_big_quiet_step (exact hN _ _) | quiet_step (exact hN _ _))
  refine wpQuiet_nil ?_
  intro _ hw'
  obtain ⟨⟨dq, osq⟩, hw''⟩ := hw'
  subst hw''
  go_wp2
  go_ret
  have hb := below_regrown w3 dq osq
  exact ⟨rfl, ⟨(G.stand a r), ⟨HE.out.1.below hb, HE.out.2.1.below hb, h.cd, h.vd, h.uc⟩⟩, HE.out.2.2.trans (Rf.Kept.of_below hb)⟩

set_option maxRecDepth 100000 in
set_option maxHeartbeats 2000000 in
theorem moves_prev (w : World) (c d : Nat) (v u : Value) (B : List Nat) (a : Nat) (h : Two w c d v u B a) (hB : Bn B) (i : Int) :
    Calls Tryz.prog 36 #[pv c, pv d, .agg #[.int .i64 4, .int .i64 i]] w fun e w' => MvPost w c d v u B e w' := by
  obtain ⟨w1, hw1⟩ : ∃ w1, w1 = w.alloc (.cells #[.int .i64 4, .int .i64 i] 82) := ⟨_, rfl⟩
  have hb1 : Below w.heap.size w w1 := by rw [hw1]; exact (Below.refl _ _).alloc (Nat.le_refl _) _
  have hm := heap_alloc_new w (.cells #[.int .i64 4, .int .i64 i] 82)
  rw [← hw1] at hm
  have m0 := Rf.cell_blk hm 0 (.int .i64 4) rfl
  have m1 := Rf.cell_blk hm 1 (.int .i64 i) rfl
  have hml := lt_of_block hm
  have h1 := h.below hb1
  have hcw := lt_of_block h.p.blk
  have hdw := lt_of_block h.r.blk
  clear hm
  unfold MvPost
  go_enter Tryz.func36, Tryz.ntmps36
  go_wp2_with fail
  rw [← hw1]
  clear hw1
  refine (pprev_any w1 c v B a h1.p hB).mono ?_
  rintro e w2 ⟨r, hr, rfl, hp2, k2⟩
  have m1' := kept_cell k2 hml (by omega) m1
  have hr2 := Cu.kept h1.r k2 (fun e => h.cd e.symm) h.uc
  clear m0 m1
  go_wp2_with fail
  refine (Rf.prev_any w2 d u B a hr2 hB).mono ?_
  rintro e w3 ⟨r', hr', rfl, hr3, k3⟩
  obtain rfl := hr.one hr'
  have hp3 := Cu.kept hp2 k3 h.cd h.vd
  have hK : Rf.Kept (fun k => k ≠ c ∧ k ≠ d) w w3 := ((Rf.Kept.of_below hb1).trans (k2.mono (fun _ _ e => e.1))).trans (k3.mono (fun _ _ e => e.2))
  clear m1' hr2 hp2 k2 k3 h1
  have hN := cur_grown hp3
  have q1 : ∀ d' os, (Sort.grow (redrawn w3 d') os).cell? ⟨d, 1, none⟩ = some (.int .i64 ((G.stand a r) : Int)) := fun d' os => cell_regrown (Rf.cell_blk hr3.blk 1 _ rfl) d' os
  have HE : Hid _ := And.intro hp3 (And.intro hr3 hK)
  clear hp3 hr3 hK
  generalize hat : (((G.stand a r) : Nat) : Int) = at' at hN q1
  clear hat
  go_wp2_with fail
  refine wp_region_quiet_below (by kernel_rfl) (by kernel_rfl) ?_
  repeat (first | go_big_quiet_step (exact hN _ _) | quiet_step (exact hN _ _))
  refine wpQuiet_nil ?_
  intro _ hw'
  obtain ⟨⟨dq, osq⟩, hw''⟩ := hw'
  subst hw''
  go_wp2
  go_ret
  have hb := below_regrown w3 dq osq
  exact ⟨rfl, ⟨(G.stand a r), ⟨HE.out.1.below hb, HE.out.2.1.below hb, h.cd, h.vd, h.uc⟩⟩, HE.out.2.2.trans (Rf.Kept.of_below hb)⟩

set_option maxRecDepth 100000 in
set_option maxHeartbeats 2000000 in
theorem moves_foll (w : World) (c d : Nat) (v u : Value) (B : List Nat) (a : Nat) (h : Two w c d v u B a) (hB : Bn B) (i : Int) :
    Calls Tryz.prog 36 #[pv c, pv d, .agg #[.int .i64 5, .int .i64 i]] w fun e w' => MvPost w c d v u B e w' := by
  obtain ⟨w1, hw1⟩ : ∃ w1, w1 = w.alloc (.cells #[.int .i64 5, .int .i64 i] 82) := ⟨_, rfl⟩
  have hb1 : Below w.heap.size w w1 := by rw [hw1]; exact (Below.refl _ _).alloc (Nat.le_refl _) _
  have hm := heap_alloc_new w (.cells #[.int .i64 5, .int .i64 i] 82)
  rw [← hw1] at hm
  have m0 := Rf.cell_blk hm 0 (.int .i64 5) rfl
  have m1 := Rf.cell_blk hm 1 (.int .i64 i) rfl
  have hml := lt_of_block hm
  have h1 := h.below hb1
  have hcw := lt_of_block h.p.blk
  have hdw := lt_of_block h.r.blk
  clear hm
  unfold MvPost
  go_enter Tryz.func36, Tryz.ntmps36
  go_wp2_with fail
  rw [← hw1]
  clear hw1
  refine (pfollow_any w1 c v B a h1.p hB i).mono ?_
  rintro e w2 ⟨r, hr, rfl, hp2, k2⟩
  have m1' := kept_cell k2 hml (by omega) m1
  have hr2 := Cu.kept h1.r k2 (fun e => h.cd e.symm) h.uc
  clear m0 m1
  go_wp2_with fail
  refine (Rf.follow_any w2 d u B a hr2 hB i).mono ?_
  rintro e w3 ⟨r', hr', rfl, hr3, k3⟩
  obtain rfl := hr.one hr'
  have hp3 := Cu.kept hp2 k3 h.cd h.vd
  have hK : Rf.Kept (fun k => k ≠ c ∧ k ≠ d) w w3 := ((Rf.Kept.of_below hb1).trans (k2.mono (fun _ _ e => e.1))).trans (k3.mono (fun _ _ e => e.2))
  clear m1' hr2 hp2 k2 k3 h1
  have hN := cur_grown hp3
  have q1 : ∀ d' os, (Sort.grow (redrawn w3 d') os).cell? ⟨d, 1, none⟩ = some (.int .i64 ((G.stand a r) : Int)) := fun d' os => cell_regrown (Rf.cell_blk hr3.blk 1 _ rfl) d' os
  have HE : Hid _ := And.intro hp3 (And.intro hr3 hK)
  clear hp3 hr3 hK
  generalize hat : (((G.stand a r) : Nat) : Int) = at' at hN q1
  clear hat
  go_wp2_with fail
  refine wp_region_quiet_below (by kernel_rfl) (by kernel_rfl) ?_
  repeat (first | go_big_quiet_step (exact hN _ _) | quiet_step (exact hN _ _))
  refine wpQuiet_nil ?_
  intro _ hw'
  obtain ⟨⟨dq, osq⟩, hw''⟩ := hw'
  subst hw''
  go_wp2
  go_ret
  have hb := below_regrown w3 dq osq
  exact ⟨rfl, ⟨(G.stand a r), ⟨HE.out.1.below hb, HE.out.2.1.below hb, h.cd, h.vd, h.uc⟩⟩, HE.out.2.2.trans (Rf.Kept.of_below hb)⟩

set_option maxRecDepth 100000 in
set_option maxHeartbeats 2000000 in
theorem moves_prec (w : World) (c d : Nat) (v u : Value) (B : List Nat) (a : Nat) (h : Two w c d v u B a) (hB : Bn B) (i : Int) :
    Calls Tryz.prog 36 #[pv c, pv d, .agg #[.int .i64 6, .int .i64 i]] w fun e w' => MvPost w c d v u B e w' := by
  obtain ⟨w1, hw1⟩ : ∃ w1, w1 = w.alloc (.cells #[.int .i64 6, .int .i64 i] 82) := ⟨_, rfl⟩
  have hb1 : Below w.heap.size w w1 := by rw [hw1]; exact (Below.refl _ _).alloc (Nat.le_refl _) _
  have hm := heap_alloc_new w (.cells #[.int .i64 6, .int .i64 i] 82)
  rw [← hw1] at hm
  have m0 := Rf.cell_blk hm 0 (.int .i64 6) rfl
  have m1 := Rf.cell_blk hm 1 (.int .i64 i) rfl
  have hml := lt_of_block hm
  have h1 := h.below hb1
  have hcw := lt_of_block h.p.blk
  have hdw := lt_of_block h.r.blk
  clear hm
  unfold MvPost
  go_enter Tryz.func36, Tryz.ntmps36
  go_wp2_with fail
  rw [← hw1]
  clear hw1
  refine (ppreced_any w1 c v B a h1.p hB i).mono ?_
  rintro e w2 ⟨r, hr, rfl, hp2, k2⟩
  have m1' := kept_cell k2 hml (by omega) m1
  have hr2 := Cu.kept h1.r k2 (fun e => h.cd e.symm) h.uc
  clear m0 m1
  go_wp2_with fail
  refine (Rf.preced_any w2 d u B a hr2 hB i).mono ?_
  rintro e w3 ⟨r', hr', rfl, hr3, k3⟩
  obtain rfl := hr.one hr'
  have hp3 := Cu.kept hp2 k3 h.cd h.vd
  have hK : Rf.Kept (fun k => k ≠ c ∧ k ≠ d) w w3 := ((Rf.Kept.of_below hb1).trans (k2.mono (fun _ _ e => e.1))).trans (k3.mono (fun _ _ e => e.2))
  clear m1' hr2 hp2 k2 k3 h1
  have hN := cur_grown hp3
  have q1 : ∀ d' os, (Sort.grow (redrawn w3 d') os).cell? ⟨d, 1, none⟩ = some (.int .i64 ((G.stand a r) : Int)) := fun d' os => cell_regrown (Rf.cell_blk hr3.blk 1 _ rfl) d' os
  have HE : Hid _ := And.intro hp3 (And.intro hr3 hK)
  clear hp3 hr3 hK
  generalize hat : (((G.stand a r) : Nat) : Int) = at' at hN q1
  clear hat
  go_wp2_with fail
  refine wp_region_quiet_below (by kernel_rfl) (by kernel_rfl) ?_
  repeat (first | go_big_quiet_step (exact hN _ _) | quiet_step (exact hN _ _))
  refine wpQuiet_nil ?_
  intro _ hw'
  obtain ⟨⟨dq, osq⟩, hw''⟩ := hw'
  subst hw''
  go_wp2
  go_ret
  have hb := below_regrown w3 dq osq
  exact ⟨rfl, ⟨(G.stand a r), ⟨HE.out.1.below hb, HE.out.2.1.below hb, h.cd, h.vd, h.uc⟩⟩, HE.out.2.2.trans (Rf.Kept.of_below hb)⟩

set_option maxRecDepth 100000 in
set_option maxHeartbeats 2000000 in
theorem moves_isb (w : World) (c d : Nat) (v u : Value) (B : List Nat) (a : Nat) (h : Two w c d v u B a) (hB : Bn B) (i : Int) :
    Calls Tryz.prog 36 #[pv c, pv d, .agg #[.int .i64 7, .int .i64 i]] w fun e w' => MvPost w c d v u B e w' := by
  obtain ⟨w1, hw1⟩ : ∃ w1, w1 = w.alloc (.cells #[.int .i64 7, .int .i64 i] 82) := ⟨_, rfl⟩
  have hb1 : Below w.heap.size w w1 := by rw [hw1]; exact (Below.refl _ _).alloc (Nat.le_refl _) _
  have hm := heap_alloc_new w (.cells #[.int .i64 7, .int .i64 i] 82)
  rw [← hw1] at hm
  have m0 := Rf.cell_blk hm 0 (.int .i64 7) rfl
  have m1 := Rf.cell_blk hm 1 (.int .i64 i) rfl
  have hml := lt_of_block hm
  have h1 := h.below hb1
  have hcw := lt_of_block h.p.blk
  have hdw := lt_of_block h.r.blk
  clear hm
  unfold MvPost
  have hpi := pisB_any w1 c v B a h1.p hB i
  have hri := Rf.isB_any w1 d u B a h1.r hB i
  have hp3 := h1.p
  have hr3 := h1.r
  have hK : Rf.Kept (fun k => k ≠ c ∧ k ≠ d) w w1 := Rf.Kept.of_below hb1
  generalize Cs.isB B i = bb at hpi hri
  go_enter Tryz.func36, Tryz.ntmps36
  go_wp2_with fail
  rw [← hw1]
  clear hw1
  refine hpi.mono ?_
  rintro e w2 ⟨rfl, rfl⟩
  go_wp2_with fail
  refine hri.mono ?_
  rintro e w3 ⟨rfl, rfl⟩
  clear m0 m1 hpi hri h1
  cases bb
  · have hN := cur_grown hp3
    have q1 : ∀ d' os, (Sort.grow (redrawn w3 d') os).cell? ⟨d, 1, none⟩ = some (.int .i64 (a : Int)) := fun d' os => cell_regrown (Rf.cell_blk hr3.blk 1 _ rfl) d' os
    have HE : Hid _ := And.intro hp3 (And.intro hr3 hK)
    clear hp3 hr3 hK
    generalize hat : ((a : Nat) : Int) = at' at hN q1
    clear hat
    go_wp2_with fail
    refine wp_region_quiet_below (by kernel_rfl) (by kernel_rfl) ?_
    repeat (first | go_big_quiet_step (exact hN _ _) | quiet_step (exact hN _ _))
    refine wpQuiet_nil ?_
    intro _ hw'
    obtain ⟨⟨dq, osq⟩, hw''⟩ := hw'
    subst hw''
    go_wp2
    go_ret
    have hb := below_regrown w3 dq osq
    exact ⟨rfl, ⟨a, ⟨HE.out.1.below hb, HE.out.2.1.below hb, h.cd, h.vd, h.uc⟩⟩, HE.out.2.2.trans (Rf.Kept.of_below hb)⟩
  · have hN := cur_grown hp3
    have q1 : ∀ d' os, (Sort.grow (redrawn w3 d') os).cell? ⟨d, 1, none⟩ = some (.int .i64 (a : Int)) := fun d' os => cell_regrown (Rf.cell_blk hr3.blk 1 _ rfl) d' os
    have HE : Hid _ := And.intro hp3 (And.intro hr3 hK)
    clear hp3 hr3 hK
    generalize hat : ((a : Nat) : Int) = at' at hN q1
    clear hat
    go_wp2_with fail
    refine wp_region_quiet_below (by kernel_rfl) (by kernel_rfl) ?_
    repeat (first | go_big_quiet_step (exact hN _ _) | quiet_step (exact hN _ _))
    refine wpQuiet_nil ?_
    intro _ hw'
    obtain ⟨⟨dq, osq⟩, hw''⟩ := hw'
    subst hw''
    go_wp2
    go_ret
    have hb := below_regrown w3 dq osq
    exact ⟨rfl, ⟨a, ⟨HE.out.1.below hb, HE.out.2.1.below hb, h.cd, h.vd, h.uc⟩⟩, HE.out.2.2.trans (Rf.Kept.of_below hb)⟩

set_option maxRecDepth 100000 in
set_option maxHeartbeats 2000000 in
theorem moves_else (w : World) (c d : Nat) (v u : Value) (B : List Nat) (a : Nat) (h : Two w c d v u B a) (_hB : Bn B) (kd : Int) (i : Int) (k1 : kd ≠ 1) (k2 : kd ≠ 2) (k3 : kd ≠ 3) (k4 : kd ≠ 4) (k5 : kd ≠ 5) (k6 : kd ≠ 6) (k7 : kd ≠ 7) :
    Calls Tryz.prog 36 #[pv c, pv d, .agg #[.int .i64 kd, .int .i64 i]] w fun e w' => MvPost w c d v u B e w' := by
  obtain ⟨w1, hw1⟩ : ∃ w1, w1 = w.alloc (.cells #[.int .i64 kd, .int .i64 i] 82) := ⟨_, rfl⟩
  have hb1 : Below w.heap.size w w1 := by rw [hw1]; exact (Below.refl _ _).alloc (Nat.le_refl _) _
  have hm := heap_alloc_new w (.cells #[.int .i64 kd, .int .i64 i] 82)
  rw [← hw1] at hm
  have m0 := Rf.cell_blk hm 0 (.int .i64 kd) rfl
  have m1 := Rf.cell_blk hm 1 (.int .i64 i) rfl
  have hml := lt_of_block hm
  have h1 := h.below hb1
  have hcw := lt_of_block h.p.blk
  have hdw := lt_of_block h.r.blk
  clear hm
  unfold MvPost
  have b1 : (kd == 1) = false := by simpa using k1
  have b2 : (kd == 2) = false := by simpa using k2
  have b3 : (kd == 3) = false := by simpa using k3
  have b4 : (kd == 4) = false := by simpa using k4
  have b5 : (kd == 5) = false := by simpa using k5
  have b6 : (kd == 6) = false := by simpa using k6
  have b7 : (kd == 7) = false := by simpa using k7
  clear k1 k2 k3 k4 k5 k6 k7
  obtain ⟨w3, hw3⟩ : ∃ w3, w3 = w1 := ⟨_, rfl⟩
  rw [← hw3] at hw1
  have hp3 := h1.p
  have hr3 := h1.r
  have hK : Rf.Kept (fun k => k ≠ c ∧ k ≠ d) w w1 := Rf.Kept.of_below hb1
  rw [← hw3] at hp3 hr3 hK m0 m1
  clear h1 hw3
  go_enter Tryz.func36, Tryz.ntmps36
  go_wp2_with fail
  rw [← hw1]
  clear hw1
  have hN := cur_grown hp3
  have q1 : ∀ d' os, (Sort.grow (redrawn w3 d') os).cell? ⟨d, 1, none⟩ = some (.int .i64 (a : Int)) := fun d' os => cell_regrown (Rf.cell_blk hr3.blk 1 _ rfl) d' os
  have HE : Hid _ := And.intro hp3 (And.intro hr3 hK)
  clear hp3 hr3 hK
  generalize hat : ((a : Nat) : Int) = at' at hN q1
  clear hat
  refine wp_region_quiet_below (by kernel_rfl) (by kernel_rfl) ?_
  repeat (first | go_big_quiet_step (exact hN _ _) | quiet_step (exact hN _ _))
  refine wpQuiet_nil ?_
  intro _ hw'
  obtain ⟨⟨dq, osq⟩, hw''⟩ := hw'
  subst hw''
  go_wp2
  go_ret
  have hb := below_regrown w3 dq osq
  exact ⟨rfl, ⟨a, ⟨HE.out.1.below hb, HE.out.2.1.below hb, h.cd, h.vd, h.uc⟩⟩, HE.out.2.2.trans (Rf.Kept.of_below hb)⟩

/-- A move, whatever it is. -/
theorem moves_any (w : World) (c d : Nat) (v u : Value) (B : List Nat) (a : Nat) (h : Two w c d v u B a) (hB : Bn B) (kd i : Int) :
    Calls Tryz.prog 36 #[pv c, pv d, .agg #[.int .i64 kd, .int .i64 i]] w fun e w' => MvPost w c d v u B e w' := by
  by_cases k1 : kd = 1
  · subst k1; exact moves_first w c d v u B a h hB i
  by_cases k2 : kd = 2
  · subst k2; exact moves_last w c d v u B a h hB i
  by_cases k3 : kd = 3
  · subst k3; exact moves_next w c d v u B a h hB i
  by_cases k4 : kd = 4
  · subst k4; exact moves_prev w c d v u B a h hB i
  by_cases k5 : kd = 5
  · subst k5; exact moves_foll w c d v u B a h hB i
  by_cases k6 : kd = 6
  · subst k6; exact moves_prec w c d v u B a h hB i
  by_cases k7 : kd = 7
  · subst k7; exact moves_isb w c d v u B a h hB i
  exact moves_else w c d v u B a h hB kd i k1 k2 k3 k4 k5 k6 k7

end Pr
end Go.Proofs.YtpgcidpghmoibaaGreatDoor

namespace Go.Proofs.YtpgcidpghmoibaaGreatDoor
namespace G
def ab : ByteArray := ⟨#[97, 98]⟩
theorem ab_us : us ab = [97, 98] := by decide
theorem ab_cut (hT : WF wordsT) : CutR wordsT ([] ++ [wT3.length]) ab 0 [⟨0, 2, 0⟩] := by
  have hl : (us ab).length = 2 := by rw [ab_us]; rfl
  have hlong : Long wordsT ([] ++ [wT3.length]) [97, 98] 2 0 := by
    refine .inr ⟨by omega, by simp, 0, wT3.length, rfl, rfl, (words_iff hT _).2 ⟨by simp, fun c hc => ?_⟩, fun q hq m h1 h2 => ?_, fun i q hi => by omega⟩
    · simp at hc
      omega
    · simp at h2
      omega
  have h0 : CutR wordsT ([] ++ [wT3.length]) ab 0 (⟨edge ab 0, edge ab (0 + max 2 1), 0⟩ :: []) := .cons (by rw [hl]; omega) (by rw [ab_us]; exact hlong) (.done (by rw [hl]; rfl))
  have e0 : edge ab 0 = 0 := by decide
  have e2 : edge ab 2 = 2 := by decide
  rw [show (0 : Nat) + max 2 1 = 2 by omega, e0, e2] at h0
  exact h0
end G
namespace Pr
open Go.RowKit
open Cs
open G (PNode)

theorem Kept.belowN {p : Nat → Prop} {N : Nat} {a b w : World} (h : Below N a b) (hk : Rf.Kept p b w) (hN : N ≤ b.heap.size) (hp : ∀ k, k < N → p k) : Below N a w :=
  ⟨hk.os.trans h.os, hk.tape.trans h.tape, hk.output.trans h.output, Nat.le_trans h.size hk.size, fun k hk2 => (hk.block k (Nat.lt_of_lt_of_le hk2 hN) (hp k hk2)).trans (h.block k hk2)⟩
theorem above_02 {r : Int} (h : G.AboveIs [0, 2] 0 r) : r = 2 := h.one (.inl ⟨1, 2, rfl, by decide, fun j y hj hy => by
  obtain rfl : j = 0 := by omega
  simp at hy
  omega, rfl⟩)
theorem above_2 {r : Int} (h : G.AboveIs [0, 2] 2 r) : r = -1 := h.one (.inr ⟨fun j y hy => by
  have hm := List.mem_of_getElem? hy
  simp at hm
  omega, rfl⟩)

theorem blk_add (a : Addr) (i : Nat) : (a.add i).block = a.block := by unfold Addr.add; split <;> rfl
theorem add_two (a : Addr) (i j : Nat) : (a.add i).add j = a.add (i + j) := by
  unfold Addr.add
  by_cases h1 : i = 0 <;> by_cases h2 : j = 0 <;> simp [h1, h2]
  omega
theorem add_one (p : Addr) : p.add 1 = { block := p.block, off := p.off + 1 } := by unfold Addr.add; rw [if_neg (by decide)]
/-- The moves as they lie in memory. -/
def MvAt (w : World) (vl : Value) (n : Nat) : Prop :=
  ∃ la cap, vl = .slice la n cap ∧ n ≤ maxLen ∧ ∀ i, i < n → ∃ a x y, la = some a ∧ a.block < w.heap.size ∧ w.cell? (a.add (i * 2)) = some (.int .i64 x) ∧ w.cell? (a.add (i * 2 + 1)) = some (.int .i64 y)

set_option maxRecDepth 100000 in
set_option maxHeartbeats 4000000 in
theorem lawg_any (w : World) (s t : ByteArray) (vl : Value) (n : Nat) (hm : s.size ≤ maxLen) (ht : t.size ≤ maxLen) (hV : MvAt w vl n) (hT : Tabs w) :
    Calls Tryz.prog 9 #[.string s, .string t, vl] w fun e w' => e = .returned (.bool true) ∧ Below w.heap.size w w' := by
  obtain ⟨la, cap, rfl, hnm, hmv⟩ := hV
  have hnx : n ≤ 9223372036854775807 := by unfold maxLen at hnm; omega
  have hwf := (words_wf w).1
  go_enter Tryz.func9, Tryz.ntmps9
  go_wp2_with fail
  refine (sure_any w hT).mono ?_
  rintro e w1 ⟨rfl, hb1⟩
  have z1 := hb1.size
  have hT1 := hT.below hb1
  go_wp2_with fail
  refine (words_comp w1 hT1).mono ?_
  rintro e w2 ⟨⟨b, m, I, v, V, P, f, rfl, hP⟩, hb2⟩
  have z2 := hb2.size
  go_wp2_with fail
  refine (pover_short w2 b m I v V _ _ P f hP G.ab (by decide)).mono ?_
  rintro e w3 ⟨⟨c0, v0, l0, rfl, hc0, hC0, hcl0, hvl0⟩, hb3⟩
  have z3 := hb3.size
  obtain rfl : l0 = [⟨0, 2, 0⟩] := hc0.one (G.ab_cut hwf)
  have hB0 : Bn (G.bnds 0 [⟨0, 2, 0⟩]) := Rf.cut_bn (G.ab_cut hwf) (by decide)
  have hC0 : Cu 131 w3 c0 v0 [0, 2] 0 := hC0
  have hB0 : Bn [0, 2] := hB0
  have hbA : Below w.heap.size w w3 := (hb1.trans (hb2.mono z1)).trans (hb3.mono (by omega))
  clear hP hc0 hb1 hb2 hb3 hT1
  go_wp2_with fail
  refine (pcur_any w3 c0 v0 _ 0 hC0).mono ?_
  rintro e w3' ⟨rfl, rfl⟩
  go_wp2_with fail
  refine (pnext_any w3' c0 v0 _ 0 hC0 hB0).mono ?_
  rintro e w4 ⟨r, hr, rfl, hC4, k4⟩
  obtain rfl := above_02 hr
  have hC4 : Cu 131 w4 c0 v0 [0, 2] 2 := hC4
  go_wp2_with fail
  refine (pnext_any w4 c0 v0 _ 2 hC4 hB0).mono ?_
  rintro e w5 ⟨r, hr', rfl, hC5, k5⟩
  obtain rfl := above_2 hr'
  have hbB : Below w.heap.size w w5 := Kept.belowN (Kept.belowN hbA k4 (by omega) (fun k hk => by omega)) k5 (by have := k4.size; omega) (fun k hk => by omega)
  have z5 := hbB.size
  have hT5 := hT.below hbB
  clear hC0 hC4 hC5 hB0 k4 k5 hbA
  go_wp2_with fail
  refine (compiled_any w5 s hm hT5).mono ?_
  rintro e w6 ⟨hb6, hpost⟩
  have z6 := hb6.size
  have hbC : Below w.heap.size w w6 := hbB.trans (hb6.mono z5)
  rcases hpost with ⟨q, rfl⟩ | ⟨b, q, T, Q, rfl, hB⟩
  · go_wp2
    go_ret
    exact ⟨rfl, hbC⟩
  · by_cases hs : 1000 < t.size
    · go_wp2_with (first
        | (go_at_call 35; refine (lnum_any _ _).mono ?_; rintro e w9 ⟨rfl, rfl⟩)
        | (go_at_call 31; refine (pover_long w6 b t hs ht).mono ?_; rintro e w7 ⟨rfl, rfl⟩)
        | (go_at_call 34; refine (Rf.rover_long _ q t hs ht).mono ?_; rintro e w8 ⟨⟨d, rfl⟩, hb8⟩))
      have hbD : Below w.heap.size w w9 := hbC.trans (hb8.mono (by omega))
      go_loopw [18] (fun vi wr => vi = .int .i64 0 ∧ wr = w9) (fun _ _ => 0)
      case atStart => exact ⟨rfl, rfl⟩
      case round =>
        obtain ⟨rfl, rfl⟩ := hrel
        by_cases hn0 : 0 < n
        · go_wp2_with fail
          go_quiet (fail)
          go_wp2
          go_ret
          exact ⟨rfl, below_drewN hbD _⟩
        · go_wp2_with fail
          go_quiet (fail)
          go_wp2
          go_ret
          exact ⟨rfl, below_drewN hbD _⟩
    · have hs' : t.size ≤ 1000 := by omega
      obtain ⟨m1, I1, v1, V1, P1, f1, hp1⟩ := hB.pin
      obtain ⟨L, B, F, J, hr1⟩ := hB.rin
      go_wp2_with fail
      refine (pover_short w6 b m1 I1 v1 V1 T Q P1 f1 hp1 t hs').mono ?_
      rintro e w7 ⟨⟨c, v2, l, rfl, hcut, hC7, hcl, hvl⟩, hb7⟩
      have z7 := hb7.size
      go_wp2_with fail
      refine (Rf.rover_short w7 q T Q L B F J (hr1.below hb7) t hs').mono ?_
      rintro e w8 ⟨⟨d, u2, l', rfl, hcut', hD8, hdl, hul⟩, hb8⟩
      obtain rfl := hcut.one hcut'
      have z8 := hb8.size
      have hB2 := Rf.cut_bn hcut hs'
      have hTw : Two w8 c d v2 u2 (G.bnds 0 l) 0 := ⟨hC7.below hb8, hD8, by have := hC7.lt c (.inl rfl); omega, fun e => by have := hC7.lt d (.inr e); omega, fun e => by have := hul c e; have := hC7.lt c (.inl rfl); omega⟩
      have hcd : w.heap.size ≤ c ∧ w.heap.size ≤ d := by omega
      have hbD : Below w.heap.size w w8 := (hbC.trans (hb7.mono (by omega))).trans (hb8.mono (by omega))
      clear hp1 hr1 hB hC7 hD8 hb7 hb8 hbC hbB hb6 hcut hcut' hT5 hT
      generalize G.bnds 0 l = B2 at *
      go_wp2_with (go_at_call 35; refine (lnum_any _ _).mono ?_; rintro e w9 ⟨rfl, rfl⟩)
      go_loopw [18] (fun vi wr => ∃ k a' : Nat, vi = .int .i64 k ∧ k ≤ n ∧ Two wr c d v2 u2 B2 a' ∧ Below w.heap.size w wr) (fun vi _ => n - (intOf vi).toNat)
      case atStart => exact ⟨0, 0, rfl, Nat.zero_le _, hTw, hbD⟩
      case round =>
        obtain ⟨k, a', rfl, hk, hT2, hbr⟩ := hrel
        by_cases hlt : k < n
        · obtain ⟨a, x, y, rfl, hal, hx, hy⟩ := hmv k hlt
          have hx' := (hbr.cell (p := a.add (k * 2)) (by rw [blk_add]; exact hal)).trans hx
          have hy' := (hbr.cell (p := a.add (k * 2 + 1)) (by rw [blk_add]; exact hal)).trans hy
          have hy2 : wr.cell? ((a.add (k * 2)).add 1) = some (.int .i64 y) := by rw [add_two]; exact hy'
          have hy3 : wr.cell? { block := (a.add (k * 2)).block, off := (a.add (k * 2)).off + 1 } = some (.int .i64 y) := by
            have e : (a.add (k * 2)).add 1 = { block := (a.add (k * 2)).block, off := (a.add (k * 2)).off + 1 } := add_one _
            rw [← e]; exact hy2
          have hy4 : wr.cell? { block := a.block, off := (a.add (k * 2)).off + 1 } = some (.int .i64 y) := by rw [blk_add] at hy3; exact hy3
          clear hx hy hmv hTw hbD
          go_wp2_with fail
          refine (moves_any wr c d v2 u2 B2 a' hT2 hB2 x y).mono ?_
          rintro e w9 ⟨rfl, ⟨a2, hT9⟩, k9⟩
          have hb9 := Kept.belowN hbr k9 (by have := hbr.size; omega) (fun j hj => ⟨by omega, by omega⟩)
          have hk1 : k + 1 ≤ n := hlt
          have HK : Hid (k + 1 ≤ n) := hk1
          go_wp2
          go_roundw
          case rel => exact ⟨k + 1, a2, by go_num, HK.out, hT9, hb9⟩
          case measure => have := HK.out; simp [intOf]; omega
        · obtain rfl : k = n := by omega
          have hN := cur_grown hT2.p
          have q1 : ∀ d' os, (Sort.grow (redrawn wr d') os).cell? ⟨d, 1, none⟩ = some (.int .i64 (a' : Int)) := fun d' os => cell_regrown (Rf.cell_blk hT2.r.blk 1 _ rfl) d' os
          go_wp2_with fail
          refine wp_region_quiet_below (by kernel_rfl) (by kernel_rfl) ?_
          repeat (first | go_big_quiet_step (exact hN _ _) | quiet_step (exact hN _ _))
          refine wpQuiet_nil ?_
          intro _ hw'
          obtain ⟨⟨dq, osq⟩, hw''⟩ := hw'
          subst hw''
          go_wp2
          go_ret
          exact ⟨rfl, hbr.trans ((below_regrown wr dq osq).mono hbr.size)⟩
end Pr
end Go.Proofs.YtpgcidpghmoibaaGreatDoor
