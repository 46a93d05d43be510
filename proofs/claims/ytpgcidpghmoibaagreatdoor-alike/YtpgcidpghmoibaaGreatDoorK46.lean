/-
  THE PROGRAM's STEP, remembered: the walk of take: what comes of a state and a unit, out of the map or worked out. Conditions: a machine in memory, of no more than 100 places; the map holds what comes of steps.
  THE PROGRAM's MACHINE, as plain functions: the places of each rule lie behind those of the rules ahead and match what the rule matches. Nothing of the program is run here. Conditions: no more than 128 places.
-/
import Derived.Test.YtpgcidpghmoibaaGreatDoorK45
import Derived.Deep.RegionLaw
namespace Go.Proofs.YtpgcidpghmoibaaGreatDoor
namespace Pr
open Go.RowKit
open Rf (Kept Lies)
open G (PNode)
structure RunAt (w : World) (I : Nat → Prop) (b m bm : Nat) (v : Value) (P : List Pl) (V : List Value) (f : PB) : Prop where
  blk : w.heap[b]? = some (.cells #[pv m, .map (some bm)] 166 (0, 0))
  ma : MaAt w I m v P V f
  lt : ∀ k, I k → k < w.heap.size
  ib : ∀ k, k = b ∨ k = m ∨ v.ownBlock = some k ∨ I k → k ≠ bm
theorem RunAt.same {w w' : World} {I : Nat → Prop} {b m bm : Nat} {v : Value} {P : List Pl} {V : List Value} {f : PB} (h : RunAt w I b m bm v P V f) (hk : Kept (fun k => k ≠ bm) w w') : RunAt w' I b m bm v P V f where
  blk := (hk.block b (lt_of_block h.blk) (h.ib b (.inl rfl))).trans h.blk
  ma := h.ma.same (fun k e => by
    rcases e with rfl | e | e
    · exact hk.block _ (lt_of_block h.ma.blk) (h.ib _ (.inr (.inl rfl)))
    · exact hk.block k (h.ma.row.lt k e).2 (h.ib k (.inr (.inr (.inl e))))
    · exact hk.block k (h.lt k e) (h.ib k (.inr (.inr (.inr e)))))
  lt k e := Nat.lt_of_lt_of_le (h.lt k e) hk.size
  ib := h.ib
theorem RunAt.below {w w' : World} {I : Nat → Prop} {b m bm : Nat} {v : Value} {P : List Pl} {V : List Value} {f : PB} (h : RunAt w I b m bm v P V f) (hb : Below w.heap.size w w') : RunAt w' I b m bm v P V f := h.same (Kept.of_below hb)
set_option maxRecDepth 100000 in
set_option maxHeartbeats 1000000 in
theorem rtake_any (w : World) (I : Nat → Prop) (b m bm n : Nat) (v : Value) (P : List Pl) (V : List Value) (f : PB) (hR : RunAt w I b m bm v P V f) (hMe : Memo w bm n P) (hn : P.length ≤ 100) (hnn : n < 100000000) (x : PB) (hx : x.Ok) (c : Int) (hc : -2147483648 ≤ c ∧ c ≤ 2147483647) :
    Calls Tryz.prog 89 #[pv b, stepV x c] w fun e w' => e = .returned (outV (wo P x c)) ∧ Memo w' bm (n + 1) P ∧ Kept (fun k => k ≠ bm) w w' := by
  have r0 := Rf.cell_blk hR.blk 0 (pv m) rfl
  have r1 := Rf.cell_blk hR.blk 1 (.map (some bm)) rfl
  have hbl := lt_of_block hR.blk
  have hb2 : Below w.heap.size w ((w.alloc (.cells #[.int .u64 x.a, .int .u64 x.c, .int .i32 c] 171)).alloc (.cells #[.int .u64 0, .int .u64 0, .int .i64 0] 168)) := ((Below.refl _ w).alloc (Nat.le_refl _) _).alloc (by simp) _
  have hs2 : ((w.alloc (.cells #[.int .u64 x.a, .int .u64 x.c, .int .i32 c] 171)).alloc (.cells #[.int .u64 0, .int .u64 0, .int .i64 0] 168)).heap[w.heap.size]? = _ := Rf.blk_alloc _ (heap_alloc_new w _)
  have ht2 : ((w.alloc (.cells #[.int .u64 x.a, .int .u64 x.c, .int .i32 c] 171)).alloc (.cells #[.int .u64 0, .int .u64 0, .int .i64 0] 168)).heap[w.heap.size + 1]? = some (.cells #[.int .u64 0, .int .u64 0, .int .i64 0] 168) := by
    have := heap_alloc_new (w.alloc (.cells #[.int .u64 x.a, .int .u64 x.c, .int .i32 c] 171)) (.cells #[.int .u64 0, .int .u64 0, .int .i64 0] 168)
    rwa [show (w.alloc (.cells #[.int .u64 x.a, .int .u64 x.c, .int .i32 c] 171)).heap.size = w.heap.size + 1 by simp] at this
  have HW : Hid _ := And.intro hb2 (And.intro hs2 ht2)
  clear hb2 hs2 ht2
  go_enter Tryz.func89, Tryz.ntmps89
  go_wp2
  obtain ⟨hb2, hs2, ht2⟩ := HW.out
  clear HW r0 r1
  generalize ((w.alloc (.cells #[.int .u64 x.a, .int .u64 x.c, .int .i32 c] 171)).alloc (.cells #[.int .u64 0, .int .u64 0, .int .i64 0] 168)) = w2 at *
  have hR2 := hR.below hb2
  have hM2 := hMe.below hb2
  have r0 := Rf.cell_blk hR2.blk 0 (pv m) rfl
  have r1 := Rf.cell_blk hR2.blk 1 (.map (some bm)) rfl
  have s0 := Rf.cell_blk hs2 0 (.int .u64 x.a) rfl
  have s1 := Rf.cell_blk hs2 1 (.int .u64 x.c) rfl
  have s2 := Rf.cell_blk hs2 2 (.int .i32 c) rfl
  have hbl2 := lt_of_block hR2.blk
  have hsl2 := lt_of_block hs2
  have htl2 := lt_of_block ht2
  have hbm2 := hM2.lt
  have hz2 := hb2.size
  rcases hM2.look x hx c hc with hl | hl
  · have l1 := hl w2.drew rfl
    have l2 := hl (w2.alloc (.cells #[.int .u64 0, .int .u64 0, .int .i64 0] 168)).drew (Below.heap_alloc _ _ _ hbm2)
    clear hl
    have hb3 : Below w.heap.size w (w2.alloc (.cells #[.int .u64 0, .int .u64 0, .int .i64 0] 168)).drew := (hb2.alloc (by omega) _).drew
    have ho3 : (w2.alloc (.cells #[.int .u64 0, .int .u64 0, .int .i64 0] 168)).drew.heap[w2.heap.size]? = some (.cells #[.int .u64 0, .int .u64 0, .int .i64 0] 168) := heap_alloc_new w2 _
    have hs3 : (w2.alloc (.cells #[.int .u64 0, .int .u64 0, .int .i64 0] 168)).drew.heap[w.heap.size]? = _ := (Below.heap_alloc _ _ _ hsl2).trans hs2
    have ht3 : (w2.alloc (.cells #[.int .u64 0, .int .u64 0, .int .i64 0] 168)).drew.heap[w.heap.size + 1]? = _ := (Below.heap_alloc _ _ _ htl2).trans ht2
    have HW : Hid _ := And.intro hb3 (And.intro ho3 (And.intro hs3 ht3))
    clear hb3 ho3 hs3 ht3
    go_region
    all_goals
      go_wp2
      obtain ⟨hb3, ho3, hs3, ht3⟩ := HW.out
      clear l1 l2 HW r0 r1 s0 s1 s2 hR2 hM2
      generalize (w2.alloc (.cells #[.int .u64 0, .int .u64 0, .int .i64 0] 168)).drew = w3 at *
      have hR3 := hR.below hb3
      have hM3 := hMe.below hb3
      have r0 := Rf.cell_blk hR3.blk 0 (pv m) rfl
      have s0 := Rf.cell_blk hs3 0 (.int .u64 x.a) rfl
      have s1 := Rf.cell_blk hs3 1 (.int .u64 x.c) rfl
      have s2 := Rf.cell_blk hs3 2 (.int .i32 c) rfl
      have hWo := fun (w' : World) (hb : Below w3.heap.size w3 w') => workout_any w' I m v P V f (hR3.below hb).ma (hR3.below hb).lt hn x c
      go_region_with (go_at_call 120; refine (hWo _ (Below.refl _ w3).drew).mono ?_; rintro e w4 ⟨rfl, hb4⟩; have hb34 : Below w3.heap.size w3 w4 := (Below.refl _ w3).drew.trans hb4; have ho4 := (hb34.block _ (lt_of_block ho3)).trans ho3; have o0 := Rf.cell_blk ho4 0 (.int .u64 0) rfl; have o1 := Rf.cell_blk ho4 1 (.int .u64 0) rfl; have o2 := Rf.cell_blk ho4 2 (.int .i64 0) rfl; have of4 := fun o => Rf.free_blk ho4 o)
      all_goals
        have hz3 := hb3.size
        have hb5 : Below w.heap.size w (((w4.setCell ⟨w2.heap.size, 0, none⟩ (.int .u64 (wo P x c).1.a)).setCell ⟨w2.heap.size, 1, none⟩ (.int .u64 (wo P x c).1.c)).setCell ⟨w2.heap.size, 2, none⟩ (.int .i64 (wo P x c).2)) := (((hb3.trans (hb34.mono hz3)).setCell (by omega) _).setCell (by omega) _).setCell (by omega) _
        have ho5 : (((w4.setCell ⟨w2.heap.size, 0, none⟩ (.int .u64 (wo P x c).1.a)).setCell ⟨w2.heap.size, 1, none⟩ (.int .u64 (wo P x c).1.c)).setCell ⟨w2.heap.size, 2, none⟩ (.int .i64 (wo P x c).2)).heap[w2.heap.size]? = some (.cells #[.int .u64 (wo P x c).1.a, .int .u64 (wo P x c).1.c, .int .i64 (wo P x c).2] 168) := Rf.blk_set (Rf.blk_set (Rf.blk_set ho4 0 _) 1 _) 2 _
        have hs5 : (((w4.setCell ⟨w2.heap.size, 0, none⟩ (.int .u64 (wo P x c).1.a)).setCell ⟨w2.heap.size, 1, none⟩ (.int .u64 (wo P x c).1.c)).setCell ⟨w2.heap.size, 2, none⟩ (.int .i64 (wo P x c).2)).heap[w.heap.size]? = _ := (Rf.blk_ne _ (by omega)).trans ((Rf.blk_ne _ (by omega)).trans ((Rf.blk_ne _ (by omega)).trans ((hb34.block _ (lt_of_block hs3)).trans hs3)))
        have ht5 : (((w4.setCell ⟨w2.heap.size, 0, none⟩ (.int .u64 (wo P x c).1.a)).setCell ⟨w2.heap.size, 1, none⟩ (.int .u64 (wo P x c).1.c)).setCell ⟨w2.heap.size, 2, none⟩ (.int .i64 (wo P x c).2)).heap[w.heap.size + 1]? = _ := (Rf.blk_ne _ (by omega)).trans ((Rf.blk_ne _ (by omega)).trans ((Rf.blk_ne _ (by omega)).trans ((hb34.block _ (lt_of_block ht3)).trans ht3)))
        have HW : Hid _ := And.intro hb5 (And.intro ho5 (And.intro hs5 ht5))
        clear hb5 ho5 hs5 ht5
        go_wp2
        obtain ⟨hb5, ho5, hs5, ht5⟩ := HW.out
        clear HW o0 o1 o2 of4 r0 s0 s1 s2
        generalize (((w4.setCell ⟨w2.heap.size, 0, none⟩ (.int .u64 (wo P x c).1.a)).setCell ⟨w2.heap.size, 1, none⟩ (.int .u64 (wo P x c).1.c)).setCell ⟨w2.heap.size, 2, none⟩ (.int .i64 (wo P x c).2)) = w5 at *
        have hR5 := hR.below hb5
        have r1 := Rf.cell_blk hR5.blk 1 (.map (some bm)) rfl
        have s0 := Rf.cell_blk hs5 0 (.int .u64 x.a) rfl
        have s1 := Rf.cell_blk hs5 1 (.int .u64 x.c) rfl
        have s2 := Rf.cell_blk hs5 2 (.int .i32 c) rfl
        have o0 := Rf.cell_blk ho5 0 (.int .u64 (wo P x c).1.a) rfl
        have o1 := Rf.cell_blk ho5 1 (.int .u64 (wo P x c).1.c) rfl
        have o2 := Rf.cell_blk ho5 2 (.int .i64 (wo P x c).2) rfl
        obtain ⟨w6, hst, hMe6, hg6⟩ := (hMe.below (hb5.drew)).store (by unfold maxLen; omega) x hx c hc
        have hk6 : Kept (fun k => k ≠ bm) w w6 := ⟨hg6.os.trans hb5.os, hg6.tape.trans hb5.tape, hg6.output.trans hb5.output, Nat.le_trans hb5.size hg6.size, fun k hk hp => (hg6.block k (Nat.lt_of_lt_of_le hk hb5.size) (fun e => hp (by simpa using e))).trans (hb5.block k hk)⟩
        have hnb : bm < w.heap.size := hMe.lt
        have ho6 := (hg6.block w2.heap.size (lt_of_block ho5) (by simp; omega)).trans ho5
        have ht6 := (hg6.block (w.heap.size + 1) (lt_of_block ht5) (by simp; omega)).trans ht5
        have HW : Hid _ := And.intro hMe6 (And.intro hk6 (And.intro ho6 ht6))
        clear hMe6 hk6 ho6 ht6 hg6
        go_region
        all_goals
          obtain ⟨hMe6, hk6, ho6, ht6⟩ := HW.out
          clear r1 s0 s1 s2 o0 o1 o2 hst
          have p0 := Rf.cell_blk ho6 0 (.int .u64 (wo P x c).1.a) rfl
          have p1 := Rf.cell_blk ho6 1 (.int .u64 (wo P x c).1.c) rfl
          have p2 := Rf.cell_blk ho6 2 (.int .i64 (wo P x c).2) rfl
          have q0 := Rf.cell_blk ht6 0 (.int .u64 0) rfl
          have q1 := Rf.cell_blk ht6 1 (.int .u64 0) rfl
          have q2 := Rf.cell_blk ht6 2 (.int .i64 0) rfl
          have qf := fun o => Rf.free_blk ht6 o
          go_wp2
          refine bodyPost_ret (v := outV (wo P x c)) (by simp [results, Tryz.results89, go_sem, q0, q1, q2]) rfl ⟨rfl, hMe6.same ?_, ((hk6.setNew (by simp) _).setNew (by simp) _).setNew (by simp) _⟩
          exact (Rf.blk_ne _ (by omega)).trans ((Rf.blk_ne _ (by omega)).trans (Rf.blk_ne _ (by omega)))
  · have l1 := hl w2.drew rfl
    have l2 := hl (w2.alloc (.cells #[.int .u64 0, .int .u64 0, .int .i64 0] 168)).drew (Below.heap_alloc _ _ _ hbm2)
    clear hl
    have hb3 : Below w.heap.size w (w2.alloc (.cells #[.int .u64 (wo P x c).1.a, .int .u64 (wo P x c).1.c, .int .i64 (wo P x c).2] 168)).drew := (hb2.alloc (by omega) _).drew
    have ho3 : (w2.alloc (.cells #[.int .u64 (wo P x c).1.a, .int .u64 (wo P x c).1.c, .int .i64 (wo P x c).2] 168)).drew.heap[w2.heap.size]? = some (.cells #[.int .u64 (wo P x c).1.a, .int .u64 (wo P x c).1.c, .int .i64 (wo P x c).2] 168) := heap_alloc_new w2 _
    have ht3 : (w2.alloc (.cells #[.int .u64 (wo P x c).1.a, .int .u64 (wo P x c).1.c, .int .i64 (wo P x c).2] 168)).drew.heap[w.heap.size + 1]? = _ := (Below.heap_alloc _ _ _ htl2).trans ht2
    have HW : Hid _ := And.intro hb3 (And.intro ho3 ht3)
    clear hb3 ho3 ht3
    go_region
    all_goals
      obtain ⟨hb3, ho6, ht6⟩ := HW.out
      clear l1 l2 HW r0 r1 s0 s1 s2 hR2 hM2
      generalize (w2.alloc (.cells #[.int .u64 (wo P x c).1.a, .int .u64 (wo P x c).1.c, .int .i64 (wo P x c).2] 168)).drew = w6 at *
      have hk6 : Kept (fun k => k ≠ bm) w w6 := Kept.of_below hb3
      have hMe6 := hMe.below hb3
      have hnb : bm < w.heap.size := hMe.lt
      have p0 := Rf.cell_blk ho6 0 (.int .u64 (wo P x c).1.a) rfl
      have p1 := Rf.cell_blk ho6 1 (.int .u64 (wo P x c).1.c) rfl
      have p2 := Rf.cell_blk ho6 2 (.int .i64 (wo P x c).2) rfl
      have q0 := Rf.cell_blk ht6 0 (.int .u64 0) rfl
      have q1 := Rf.cell_blk ht6 1 (.int .u64 0) rfl
      have q2 := Rf.cell_blk ht6 2 (.int .i64 0) rfl
      have qf := fun o => Rf.free_blk ht6 o
      go_wp2
      refine bodyPost_ret (v := outV (wo P x c)) (by simp [results, Tryz.results89, go_sem, q0, q1, q2]) rfl ⟨rfl, (hMe6.mono (Nat.le_succ _)).same ?_, ((hk6.setNew (by simp) _).setNew (by simp) _).setNew (by simp) _⟩
      exact (Rf.blk_ne _ (by omega)).trans ((Rf.blk_ne _ (by omega)).trans (Rf.blk_ne _ (by omega)))
end Pr
end Go.Proofs.YtpgcidpghmoibaaGreatDoor

namespace Go.Proofs.YtpgcidpghmoibaaGreatDoor
namespace Pr
open G (PNode Lang Gl Pth)
def off (T : List PNode) (Q : List Nat) (k : Nat) : Nat := ((Q.take k).flatMap (G.lv T)).length
theorem off_zero (T : List PNode) (Q : List Nat) : off T Q 0 = 0 := by simp [off]
theorem off_succ {T : List PNode} {Q : List Nat} {k q : Nat} (h : Q[k]? = some q) : off T Q (k + 1) = off T Q k + (G.lv T q).length := by
  unfold off
  rw [List.take_add_one, h]
  simp
theorem off_mono (T : List PNode) (Q : List Nat) {j k : Nat} (h : j ≤ k) : off T Q j ≤ off T Q k := by
  induction k with
  | zero => rw [show j = 0 by omega]; exact Nat.le_refl _
  | succ k ih =>
    by_cases e : j = k + 1
    · rw [e]; exact Nat.le_refl _
    · have := ih (by omega)
      cases hq : Q[k]? with
      | none =>
        have : off T Q (k + 1) = off T Q k := by
          unfold off
          rw [List.take_add_one, hq]
          simp
        omega
      | some q => rw [off_succ hq]; omega
theorem off_at (T : List PNode) (Q : List Nat) (i : Nat) : ∀ k, i < off T Q k → ∃ j, j < k ∧ off T Q j ≤ i ∧ i < off T Q (j + 1)
  | 0, h => by rw [off_zero] at h; omega
  | k + 1, h => by
    by_cases e : i < off T Q k
    · obtain ⟨j, h1, h2⟩ := off_at T Q i k e
      exact ⟨j, by omega, h2⟩
    · exact ⟨k, by omega, by omega, h⟩
theorem mrk_at (k0 k rule : Nat) (l : PB) (P : List Pl) (i : Nat) : (mrk k0 k rule l P)[i]? = P[i]?.map fun p => if (decide (k0 ≤ i) && decide (i < k)) = true then p.mark rule (l.has i) else p := by
  unfold mrk
  rw [List.getElem?_mapIdx]
theorem mrk_t (k0 k rule : Nat) (l : PB) (P : List Pl) (i : Nat) (c : Int) : tP (mrk k0 k rule l P) i c ↔ tP P i c := by
  unfold tP
  rw [mrk_at]
  cases P[i]? with
  | none => simp
  | some p =>
    simp only [Option.map_some, Option.some.injEq]
    constructor
    · rintro ⟨q, rfl, h⟩
      refine ⟨p, rfl, ?_⟩
      split at h
      · exact h
      · exact h
    · rintro ⟨q, rfl, h⟩
      refine ⟨_, rfl, ?_⟩
      split
      · exact h
      · exact h
theorem mrk_b (k0 k rule : Nat) (l : PB) (P : List Pl) (i j : Nat) : bP (mrk k0 k rule l P) i j ↔ bP P i j := by
  unfold bP
  rw [mrk_at]
  cases P[i]? with
  | none => simp
  | some p =>
    simp only [Option.map_some, Option.some.injEq]
    constructor
    · rintro ⟨q, rfl, h⟩
      refine ⟨p, rfl, ?_⟩
      split at h
      · exact h
      · exact h
    · rintro ⟨q, rfl, h⟩
      refine ⟨_, rfl, ?_⟩
      split
      · exact h
      · exact h
def lP (P : List Pl) (i : Nat) : Prop := ∃ p, P[i]? = some p ∧ p.last = true
structure MaS (T : List PNode) (Q : List Nat) (k : Nat) (P : List Pl) (f : PB) : Prop where
  len : P.length = off T Q k
  ok : OkP P
  okf : f.Ok
  fr : ∀ i, hP f i → i < P.length
  gl : ∀ j q, j < k → Q[j]? = some q → ∃ e, Gl (tP P) (bP P) (fun i => hP f i ∧ off T Q j ≤ i ∧ i < off T Q (j + 1)) (fun i => lP P i ∧ off T Q j ≤ i ∧ i < off T Q (j + 1)) e (off T Q j) (off T Q (j + 1)) (G.lang T q)
  rule : ∀ j i p, j < k → off T Q j ≤ i → i < off T Q (j + 1) → P[i]? = some p → p.rule = j
theorem machN_s {T : List PNode} (hT : G.WF T) {Q : List Nat} (hQ : ∀ q ∈ Q, q < T.length) (hsz : off T Q Q.length ≤ 128) : ∀ k, k ≤ Q.length → MaS T Q k (machN T Q k).1 (machN T Q k).2
  | 0, _ => { len := by rw [off_zero]; rfl, ok := fun p hp => by simp [machN] at hp, okf := PB.ok_zero, fr := fun i h => absurd h (hP_zero i), gl := fun j q h => by omega, rule := fun j i p h => by omega }
  | k + 1, hk => by
    have ih := machN_s hT hQ hsz k (by omega)
    have hx : Q[k]? = some (Q[k]'(by omega)) := List.getElem?_eq_getElem _
    have hg : Q.getD k 0 = Q[k]'(by omega) := by rw [List.getD_eq_getElem?_getD, hx]; rfl
    have hq := hQ _ (List.getElem_mem (show k < Q.length by omega))
    have hgoal : machN T Q (k + 1) = ruleStep T k (Q[k]'(by omega)) (machN T Q k) := by rw [machN, hg]
    rw [hgoal]
    generalize Q[k]'(by omega) = q at *
    generalize machN T Q k = s at *
    have ho := off_succ (T := T) hx
    have hom := off_mono T Q hk
    have hlen := adN_len hT q hq s.1
    have hl := ih.len
    have g := adN_gl hT q hq s.1 ih.ok (by omega)
    unfold ruleStep
    generalize adN T q s.1 = r at *
    have hrl : r.1.length = off T Q (k + 1) := by omega
    have hml : (mrk s.1.length r.1.length k r.2.l r.1).length = r.1.length := by simp [mrk]
    have hold : ∀ i, i < s.1.length → (mrk s.1.length r.1.length k r.2.l r.1)[i]? = s.1[i]? := fun i hi => by
      rw [mrk_at, g.old i hi]
      cases s.1[i]? with
      | none => rfl
      | some p => simp [show ¬ s.1.length ≤ i by omega]
    have hnew : ∀ i p, s.1.length ≤ i → i < r.1.length → r.1[i]? = some p → (mrk s.1.length r.1.length k r.2.l r.1)[i]? = some (p.mark k (r.2.l.has i)) := fun i p h1 h2 hp => by
      rw [mrk_at, hp]
      simp [h1, h2]
    have hfi : ∀ i, hP (s.2.or r.2.f) i ↔ hP s.2 i ∨ hP r.2.f i := fun i => hP_or ih.okf g.okf i
    refine { len := by show (mrk _ _ _ _ _).length = _; rw [hml]; exact hrl, ok := ?_, okf := ih.okf.or g.okf, fr := ?_, gl := ?_, rule := ?_ }
    · intro p hp
      obtain ⟨i, hi⟩ := List.mem_iff_getElem?.1 hp
      rw [mrk_at] at hi
      cases hr : r.1[i]? with
      | none => rw [hr] at hi; simp at hi
      | some p0 =>
        rw [hr] at hi
        simp only [Option.map_some, Option.some.injEq] at hi
        subst hi
        have h0 : p0.be.Ok := g.ok.at hr
        split
        · exact h0
        · exact h0
    · intro i h
      show i < (mrk _ _ _ _ _).length
      rw [hml]
      rcases (hfi i).1 h with h | h
      · have := ih.fr i h; omega
      · exact (g.gl.fr i h).2
    · intro j q' hj hq'
      by_cases e : j = k
      · subst e
        rw [hx] at hq'
        simp only [Option.some.injEq] at hq'
        subst hq'
        refine ⟨r.2.e = true, ?_⟩
        have hgl := g.gl
        rw [hl, hrl] at hgl
        refine hgl.congr (fun i c _ _ => (mrk_t _ _ _ _ _ i c).symm) (fun i m _ _ => (mrk_b _ _ _ _ _ i m).symm) (fun i => ?_) (fun i => ?_) Iff.rfl
        · constructor
          · intro h
            have := hgl.fr i h
            exact ⟨(hfi i).2 (.inr h), this⟩
          · rintro ⟨h, h1, h2⟩
            rcases (hfi i).1 h with h | h
            · have := ih.fr i h; omega
            · exact h
        · constructor
          · intro h
            have hr := hgl.lr i h
            have hp : r.1[i]? = some (r.1[i]'(by omega)) := List.getElem?_eq_getElem _
            exact ⟨⟨_, hnew i _ (by omega) (by omega) hp, h.2⟩, hr⟩
          · rintro ⟨⟨p, hp, hlast⟩, h1, h2⟩
            have hp' : r.1[i]? = some (r.1[i]'(by omega)) := List.getElem?_eq_getElem _
            rw [hnew i _ (by omega) (by omega) hp'] at hp
            simp only [Option.some.injEq] at hp
            subst hp
            exact ⟨by omega, hlast⟩
      · obtain ⟨e', ge⟩ := ih.gl j q' (by omega) hq'
        have hjk := off_mono T Q (show j + 1 ≤ k by omega)
        refine ⟨e', ge.congr (fun i c _ h2 => (tP_same (hold i (by omega)) c).symm) (fun i m _ h2 => (bP_same (hold i (by omega)) m).symm) (fun i => ?_) (fun i => ?_) Iff.rfl⟩
        · constructor
          · rintro ⟨h, h1, h2⟩; exact ⟨(hfi i).2 (.inl h), h1, h2⟩
          · rintro ⟨h, h1, h2⟩
            rcases (hfi i).1 h with h | h
            · exact ⟨h, h1, h2⟩
            · have := (g.gl.fr i h).1; omega
        · constructor
          · rintro ⟨⟨p, hp, hlast⟩, h1, h2⟩; exact ⟨⟨p, by rw [hold i (by omega)]; exact hp, hlast⟩, h1, h2⟩
          · rintro ⟨⟨p, hp, hlast⟩, h1, h2⟩
            rw [hold i (by omega)] at hp
            exact ⟨⟨p, hp, hlast⟩, h1, h2⟩
    · intro j i p hj h1 h2 hp
      by_cases e : j = k
      · subst e
        have hp' : r.1[i]? = some (r.1[i]'(by omega)) := List.getElem?_eq_getElem _
        have hp2 : (mrk s.1.length r.1.length j r.2.l r.1)[i]? = some p := hp
        rw [hnew i _ (by omega) (by omega) hp'] at hp2
        simp only [Option.some.injEq] at hp2
        subst hp2
        rfl
      · have hjk := off_mono T Q (show j + 1 ≤ k by omega)
        have hp2 : (mrk s.1.length r.1.length k r.2.l r.1)[i]? = some p := hp
        rw [hold i (by omega)] at hp2
        exact ih.rule j i p (by omega) h1 h2 hp2
end Pr
end Go.Proofs.YtpgcidpghmoibaaGreatDoor
