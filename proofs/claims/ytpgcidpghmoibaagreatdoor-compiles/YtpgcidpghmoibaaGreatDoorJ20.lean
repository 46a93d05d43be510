/-
  THE PROGRAM's RULES, asked: the walks of Machine.Places, Machine.Same, and of seam's Compile, Count, Places, Same. Conditions: the source has at most 2000 bytes (or more: then nothing is read); the library's tables lie in memory as the text lays them.
  THE PROGRAM's calls: the walks of seam's Compile, Count, Places, Same. Conditions: the source has at most 2000 bytes (or more: then nothing is read); the library's tables lie in memory as the text lays them.
  THE LAW's HELPER compiled: the program and the reference read one source and answer alike. Conditions: the source is no longer than a string can be; the library's tables lie in memory as the text lays them.
  THE LAW Compiles: the walk. Conditions: the source is no longer than a string can be; the two numbers are of 32 bits; the library's tables lie in memory as the text lays them.
-/
import Derived.Test.YtpgcidpghmoibaaGreatDoorJ17
import Derived.Test.YtpgcidpghmoibaaGreatDoorJ19
import Derived.Test.YtpgcidpghmoibaaGreatDoorJ05
import Derived.Test.YtpgcidpghmoibaaGreatDoorJ02
import Derived.Test.YtpgcidpghmoibaaGreatDoorJ11
import Derived.Test.YtpgcidpghmoibaaGreatDoorJ12
namespace Go.Proofs.YtpgcidpghmoibaaGreatDoor
namespace Pr
open Go.RowKit
open Rf (Kept Lies)
open G (PNode)

set_option maxRecDepth 100000 in
set_option maxHeartbeats 1000000 in
theorem mplaces_any (w : World) (I : Nat → Prop) (b : Nat) (v : Value) (P : List Pl) (V : List Value) (f : PB) (hM : MaAt w I b v P V f) :
    Calls Tryz.prog 55 #[pv b] w fun e w' => e = .returned (.int .i64 (P.length : Int)) ∧ w' = w := by
  obtain ⟨va, vc, hve⟩ := Rf.own_len hM.row
  subst hve
  have m0 := Rf.cell_blk hM.blk 0 (.slice va P.length vc) rfl
  go_enter Tryz.func55, Tryz.ntmps55
  go_wp2
  go_ret
  exact ⟨rfl, rfl⟩

/-- Do places tell two numbers apart? -/
def tellP (X : List PNode) (a c : Int) : Bool := X.any fun x => G.inV x a != G.inV x c

set_option maxRecDepth 100000 in
set_option maxHeartbeats 2000000 in
theorem msame_any (w : World) (I : Nat → Prop) (b : Nat) (v : Value) (P : List Pl) (V : List Value) (f : PB) (hM : MaAt w I b v P V f) (hI : ∀ k, I k → k < w.heap.size) (hn : P.length ≤ 100) (a c : Int) :
    Calls Tryz.prog 54 #[pv b, .int .i32 a, .int .i32 c] w fun e w' => e = .returned (.bool (!(tellP (xs P) a c))) ∧ Below w.heap.size w w' := by
  obtain ⟨va, vc, hve⟩ := Rf.own_len hM.row
  subst hve
  have m0 := Rf.cell_blk hM.blk 0 (.slice va P.length vc) rfl
  go_enter Tryz.func54, Tryz.ntmps54
  go_wp2
  clear m0
  go_loopw [8, 14] (fun _ vk wr => ∃ k : Nat, vk = .int .i64 k ∧ k ≤ P.length ∧ tellP (xs (P.take k)) a c = false ∧ Below w.heap.size w wr) (fun _ vk _ => P.length - (intOf vk).toNat)
  case atStart => exact ⟨0, rfl, Nat.zero_le _, rfl, Below.refl _ _⟩
  case round =>
    obtain ⟨k, rfl, hk, ht, hbw⟩ := hrel
    have HT : Hid _ := ht
    clear ht
    by_cases hlt : k < P.length
    · have hlt' : (k : Int) < (P.length : Int) := by omega
      have hM1 := hM.below hI hbw
      have hp : P[k]? = some (P[k]'hlt) := List.getElem?_eq_getElem _
      generalize P[k]'hlt = p at hp
      have hu : V[k]? = some (V[k]'(by rw [hM.len]; exact hlt)) := List.getElem?_eq_getElem _
      generalize V[k]'(by rw [hM.len]; exact hlt) = u at hu
      obtain ⟨rs, hrow, hok, hui⟩ := hM1.sets k p u hp hu
      obtain ⟨ua, uc, hue⟩ := Rf.own_len hrow
      subst hue
      have hrw := hM1.row
      obtain ⟨g, cap, hve, _, _⟩ := hrw.form (by omega)
      simp only [Value.slice.injEq] at hve
      obtain ⟨rfl, _, rfl⟩ := hve
      have d0 : wr.cell? ⟨g, k * 6, none⟩ = some (.slice ua rs.length uc) := own_cell' hrw (k * 6 + 0) ((pcells_get hp hu 0 (by omega)).trans rfl)
      have d1 : wr.cell? ⟨g, k * 6 + 1, none⟩ = some (.bool p.x.other) := own_cell' hrw (k * 6 + 1) ((pcells_get hp hu 1 (by omega)).trans rfl)
      have d2 : wr.cell? ⟨g, k * 6 + 2, none⟩ = some (.int .i64 (p.rule : Int)) := own_cell' hrw (k * 6 + 2) ((pcells_get hp hu 2 (by omega)).trans rfl)
      have d3 : wr.cell? ⟨g, k * 6 + 3, none⟩ = some (.bool p.last) := own_cell' hrw (k * 6 + 3) ((pcells_get hp hu 3 (by omega)).trans rfl)
      have d4 : wr.cell? ⟨g, k * 6 + 4, none⟩ = some (.int .u64 p.be.a) := own_cell' hrw (k * 6 + 4) ((pcells_get hp hu 4 (by omega)).trans rfl)
      have d5 : wr.cell? ⟨g, k * 6 + 5, none⟩ = some (.int .u64 p.be.c) := own_cell' hrw (k * 6 + 5) ((pcells_get hp hu 5 (by omega)).trans rfl)
      have hb1 : Below wr.heap.size wr (wr.alloc (.cells #[.slice ua rs.length uc, .bool p.x.other, .int .i64 (p.rule : Int), .bool p.last, .int .u64 p.be.a, .int .u64 p.be.c] 158)) := (Below.refl _ _).alloc (Nat.le_refl _) _
      have e0 := Rf.cell_blk (heap_alloc_new wr (.cells #[.slice ua rs.length uc, .bool p.x.other, .int .i64 (p.rule : Int), .bool p.last, .int .u64 p.be.a, .int .u64 p.be.c] 158)) 0 (.slice ua rs.length uc) rfl
      have e1 := Rf.cell_blk (heap_alloc_new wr (.cells #[.slice ua rs.length uc, .bool p.x.other, .int .i64 (p.rule : Int), .bool p.last, .int .u64 p.be.a, .int .u64 p.be.c] 158)) 1 (.bool p.x.other) rfl
      have hrow1 := Rf.own_same (w' := wr.alloc (.cells #[.slice ua rs.length uc, .bool p.x.other, .int .i64 (p.rule : Int), .bool p.last, .int .u64 p.be.a, .int .u64 p.be.c] 158)) hrow (fun j e => hb1.block j (hrow.lt j e).2)
      have hst : tellP (xs (P.take (k + 1))) a c = (tellP (xs (P.take k)) a c || (G.inV p.x a != G.inV p.x c)) := by
        rw [take_snoc hp]
        simp [tellP, xs, List.any_append]
      have hfull : (G.inV p.x a != G.inV p.x c) = true → tellP (xs P) a c = true := fun h => by
        unfold tellP xs
        rw [List.any_eq_true]
        exact ⟨p.x, List.mem_map.2 ⟨p, List.mem_of_getElem? hp, rfl⟩, h⟩
      have HS : Hid _ := And.intro hst hfull
      clear hst hfull
      go_upto_region 4 with fail
      clear d0 d1 d2 d3 d4 d5 hrw
      have hB1 : Below w.heap.size w (wr.alloc (.cells #[.slice ua rs.length uc, .bool p.x.other, .int .i64 (p.rule : Int), .bool p.last, .int .u64 p.be.a, .int .u64 p.be.c] 158)) := hbw.trans (hb1.mono hbw.size)
      generalize wr.alloc (.cells #[.slice ua rs.length uc, .bool p.x.other, .int .i64 (p.rule : Int), .bool p.last, .int .u64 p.be.a, .int .u64 p.be.c] 158) = w1 at *
      have hN : ∀ (y : Int) d os, Calls Tryz.prog 84 #[.agg #[.slice ua rs.length uc, .bool p.x.other], .int .i32 y] (Sort.grow (redrawn w1 d) os) fun e w'' => e = .returned (.bool (G.inV p.x y)) ∧ ∃ q : Regrown, w'' = Sort.grow (redrawn w1 q.d) q.os :=
        fun y d os => by
          have h1 := has_any (Sort.grow (redrawn w1 d) os) p.x.ranges p.x.other (.agg #[.slice ua rs.length uc, .bool p.x.other]) ⟨_, rs, rfl, Rf.own_same hrow1 (fun j e => (below_regrown w1 d os).block j (hrow1.lt j e).2), hok⟩ y
          rw [hasB_in] at h1
          exact Calls.regrown_of h1
      have q0 : ∀ d os, (Sort.grow (redrawn w1 d) os).cell? ⟨wr.heap.size, 0, none⟩ = some (.slice ua rs.length uc) := fun d os => cell_regrown e0 d os
      have q1 : ∀ d os, (Sort.grow (redrawn w1 d) os).cell? ⟨wr.heap.size, 1, none⟩ = some (.bool p.x.other) := fun d os => cell_regrown e1 d os
      clear e0 e1
      generalize G.inV p.x = F at *
      refine wp_region_quiet_below (by kernel_rfl) (by kernel_rfl) ?_
      repeat (first | go_big_quiet_step (exact hN _ _ _) | quiet_step (exact hN _ _ _))
      refine wpQuiet_nil ?_
      intro _ hw'
      obtain ⟨⟨dq, osq⟩, hw''⟩ := hw'
      subst hw''
      have hbel : Below w.heap.size w (Sort.grow (redrawn w1 dq) osq) := hB1.trans ((below_regrown w1 dq osq).mono hB1.size)
      have HB : Hid _ := hbel
      clear hbel q0 q1 hN
      have hS1 := HS.out.1
      have hS2 := HS.out.2
      generalize F a = ba at *
      generalize F c = bc at *
      have HS2 : Hid _ := And.intro hS1 hS2
      clear hS1 hS2 HS
      cases ba <;> cases bc
      · go_wp2
        refine ⟨⟨k + 1, by go_num, by omega, ?_, HB.out⟩, by simp [intOf]; omega⟩
        rw [HS2.out.1, HT.out]
        rfl
      · go_wp2
        go_ret
        refine ⟨?_, HB.out⟩
        rw [HS2.out.2 rfl]
        rfl
      · go_wp2
        go_ret
        refine ⟨?_, HB.out⟩
        rw [HS2.out.2 rfl]
        rfl
      · go_wp2
        refine ⟨⟨k + 1, by go_num, by omega, ?_, HB.out⟩, by simp [intOf]; omega⟩
        rw [HS2.out.1, HT.out]
        rfl
    · have e : k = P.length := by omega
      subst e
      have hlt' : ¬ (P.length : Int) < (P.length : Int) := by omega
      go_wp2
      go_ret
      refine ⟨?_, hbw⟩
      have := HT.out
      rw [List.take_length] at this
      rw [this]
      rfl

end Pr
end Go.Proofs.YtpgcidpghmoibaaGreatDoor

namespace Go.Proofs.YtpgcidpghmoibaaGreatDoor
namespace Pr
open Go.RowKit
open Rf (Kept Lies)
open G (PNode)

/-- The block of rules: their source, how many they are, their machine. -/
structure RuB (w : World) (b : Nat) (T : List PNode) (Q : List Nat) (m : Nat) : Prop where
  ex : ∃ s : ByteArray, s.size ≤ 2000 ∧ G.Src s 0 [] [] [] (.ok Q T) ∧ w.heap[b]? = some (.cells #[.string s, .int .i64 (Q.length : Int), pv m] 113 (0, 0))
theorem RuB.lt {w : World} {b : Nat} {T : List PNode} {Q : List Nat} {m : Nat} (h : RuB w b T Q m) : b < w.heap.size := by
  obtain ⟨s, _, _, h1⟩ := h.ex
  exact lt_of_block h1
theorem RuB.same {w w' : World} {b : Nat} {T : List PNode} {Q : List Nat} {m : Nat} (h : RuB w b T Q m) (e : w'.heap[b]? = w.heap[b]?) : RuB w' b T Q m := by
  obtain ⟨s, h2, h3, h1⟩ := h.ex
  exact ⟨s, h2, h3, e.trans h1⟩
theorem RuB.num {w : World} {b : Nat} {T : List PNode} {Q : List Nat} {m : Nat} (h : RuB w b T Q m) : w.cell? ⟨b, 1, none⟩ = some (.int .i64 (Q.length : Int)) := by
  obtain ⟨s, _, _, h1⟩ := h.ex
  exact Rf.cell_blk h1 1 _ rfl
theorem RuB.mach {w : World} {b : Nat} {T : List PNode} {Q : List Nat} {m : Nat} (h : RuB w b T Q m) : w.cell? ⟨b, 2, none⟩ = some (pv m) := by
  obtain ⟨s, _, _, h1⟩ := h.ex
  exact Rf.cell_blk h1 2 _ rfl

set_option maxRecDepth 100000 in
theorem sclone_any (s : ByteArray) (w : World) (hs : s.size ≤ 2000) : Calls Tryz.prog 51 #[.string s] w fun e w' => e = .returned (.string s) ∧ Below w.heap.size w w' := by
  have hC := Tryz.stringslite_Clone s w (by omega)
  go_enter Tryz.func51, Tryz.ntmps51
  go_wp2_with (go_at_call 78; refine hC.mono ?_; rintro e w1 ⟨rfl, hb1⟩)
  go_ret
  exact ⟨rfl, hb1⟩

/-- Rules at a block. -/
structure PRul (w : World) (b : Nat) (T : List PNode) (Q : List Nat) : Prop where
  ex : ∃ I m v V, RuB w b T Q m ∧ MaAt w I m v (machN T Q Q.length).1 V (machN T Q Q.length).2 ∧ ∀ k, I k → k < w.heap.size
theorem PRul.below {w w' : World} {b : Nat} {T : List PNode} {Q : List Nat} (h : PRul w b T Q) (hb : Below w.heap.size w w') : PRul w' b T Q := by
  obtain ⟨I, m, v, V, h1, h2, h3⟩ := h.ex
  exact ⟨I, m, v, V, h1.same (hb.block b h1.lt), h2.below h3 hb, fun k hk => Nat.lt_of_lt_of_le (h3 k hk) hb.size⟩

set_option maxRecDepth 100000 in
set_option maxHeartbeats 1000000 in
theorem count_any (w : World) (b : Nat) (T : List PNode) (Q : List Nat) (h : PRul w b T Q) : Calls Tryz.prog 16 #[pv b] w fun e w' => e = .returned (.int .i64 (Q.length : Int)) ∧ w' = w := by
  obtain ⟨I, m, v, V, h1, h2, h3⟩ := h.ex
  have c0 := h1.num
  go_enter Tryz.func16, Tryz.ntmps16
  go_wp2
  go_ret
  exact ⟨rfl, rfl⟩

set_option maxRecDepth 100000 in
set_option maxHeartbeats 1000000 in
theorem pplaces_any (w : World) (b : Nat) (T : List PNode) (Q : List Nat) (h : PRul w b T Q) (hT : G.WF T) (hQ : ∀ q ∈ Q, q < T.length) : Calls Tryz.prog 17 #[pv b] w fun e w' => e = .returned (.int .i64 ((Q.flatMap (G.lv T)).length : Int)) ∧ w' = w := by
  obtain ⟨I, m, v, V, h1, h2, h3⟩ := h.ex
  have c1 := h1.mach
  have hP := mplaces_any w I m v _ V _ h2
  have hl := machN_len hT hQ Q.length (Nat.le_refl _)
  rw [List.take_length] at hl
  rw [hl] at hP
  generalize (Q.flatMap (G.lv T)).length = N at *
  go_enter Tryz.func17, Tryz.ntmps17
  go_wp2_with (go_at_call 55; refine hP.mono ?_; rintro e w1 ⟨rfl, rfl⟩)
  go_ret
  exact ⟨rfl, rfl⟩

set_option maxRecDepth 100000 in
set_option maxHeartbeats 1000000 in
theorem psame_any (w : World) (b : Nat) (T : List PNode) (Q : List Nat) (h : PRul w b T Q) (hT : G.WF T) (hQ : ∀ q ∈ Q, q < T.length) (hsz : (Q.flatMap (G.lv T)).length ≤ 100) (a c : Int) : Calls Tryz.prog 15 #[pv b, .int .i32 a, .int .i32 c] w fun e w' => e = .returned (.bool (!(Q.any (G.tellB T a c)))) ∧ Below w.heap.size w w' := by
  obtain ⟨I, m, v, V, h1, h2, h3⟩ := h.ex
  have c1 := h1.mach
  have hl := machN_len hT hQ Q.length (Nat.le_refl _)
  have hx := machN_xs hT hQ Q.length (Nat.le_refl _)
  rw [List.take_length] at hl hx
  have hS := msame_any w I m v _ V _ h2 h3 (by omega) a c
  have he : tellP (xs (machN T Q Q.length).1) a c = Q.any (G.tellB T a c) := by
    rw [hx]
    unfold tellP G.tellB
    rw [List.any_flatMap]
  rw [he] at hS
  go_enter Tryz.func15, Tryz.ntmps15
  go_wp2_with (go_at_call 54; refine hS.mono ?_; rintro e w1 ⟨rfl, hb1⟩)
  go_ret
  exact ⟨rfl, hb1⟩

set_option maxRecDepth 100000 in
set_option maxHeartbeats 1000000 in
theorem pcomp_long (w : World) (s : ByteArray) (hs : 2000 < s.size) (_hm : s.size ≤ maxLen) :
    Calls Tryz.prog 13 #[.string s] w fun e w' => e = .returned (.tuple #[.pointer none, .int .i64 0, .int .i64 1]) ∧ w' = w := by
  have hs' : (2000 : Int) < (s.size : Int) := by omega
  go_enter Tryz.func13, Tryz.ntmps13
  go_wp2
  go_ret3
  exact ⟨rfl, rfl⟩

/-- What Compile leaves. -/
def PComp (w : World) (r : G.Fin') (e : Ending) (w' : World) : Prop :=
  Below w.heap.size w w' ∧ match r with
    | .err c p => e = .returned (.tuple #[.pointer none, .int .i64 (p : Int), .int .i64 (c : Int)])
    | .ok Q T => ((50 < Q.length ∨ 100 < G.sizeOf T Q) ∧ e = .returned (.tuple #[.pointer none, .int .i64 0, .int .i64 6])) ∨
      ((Q.length ≤ 50 ∧ G.sizeOf T Q ≤ 100) ∧ ∃ b, w.heap.size ≤ b ∧ e = .returned (.tuple #[pv b, .int .i64 0, .int .i64 0]) ∧ PRul w' b T Q)

set_option maxRecDepth 100000 in
set_option maxHeartbeats 2000000 in
theorem pcomp_any (w : World) (s : ByteArray) (r : G.Fin') (hs : s.size ≤ 2000) (hT : Tabs w) (hr : G.Src s 0 [] [] [] r) (hne : ∀ c p, r = .err c p → c ≠ 0) :
    Calls Tryz.prog 13 #[.string s] w fun e w' => PComp w r e w' := by
  have hs' : ¬ (2000 : Int) < (s.size : Int) := by omega
  have hR := read_any w s r hs hT hr
  cases r with
  | err c p =>
    have hc : ((c : Int) != 0) = true := by have := hne c p rfl; simp; omega
    unfold ReadP at hR
    go_enter Tryz.func13, Tryz.ntmps13
    go_wp2_with (go_at_call 49; refine hR.mono ?_; rintro e w1 ⟨hb1, rfl⟩)
    go_ret3
    exact ⟨hb1, rfl⟩
  | ok Q T =>
    unfold ReadP at hR
    by_cases h50 : 50 < Q.length
    · have h50' : (50 : Int) < (Q.length : Int) := by omega
      go_enter Tryz.func13, Tryz.ntmps13
      go_wp2_with (go_at_call 49; refine hR.mono ?_; rintro e w1 ⟨hb1, vR, I, B, rfl, hTr, hwf, hrow, hq, hql⟩; obtain ⟨va, vc, hve⟩ := Rf.own_len hrow; subst hve)
      go_ret3
      exact ⟨hb1, .inl ⟨.inl h50, rfl⟩⟩
    · have h50' : ¬ (50 : Int) < (Q.length : Int) := by omega
      by_cases h100 : 100 < G.sizeOf T Q
      · have hmin : min (G.sizeOf T Q) 101 = 101 := by omega
        go_enter Tryz.func13, Tryz.ntmps13
        go_wp2_with (first
          | (go_at_call 50; refine hTo.mono ?_; rintro e w2 ⟨rfl, rfl⟩)
          | (go_at_call 49; refine hR.mono ?_; rintro e w1 ⟨hb1, vR, I, B, rfl, hTr, hwf, hrow, hq, hql⟩; have hTo := total_any w1 T B Q vR hrow hql (fun p hp => hTr.places hwf p (hq p hp)) (fun p hp => by rw [G.sz_eq (List.getElem?_eq_getElem (hq p hp))]; exact hwf.le _ (List.getElem_mem _)); rw [hmin] at hTo; obtain ⟨va, vc, hve⟩ := Rf.own_len hrow; subst hve))
        go_ret3
        exact ⟨hb1, .inl ⟨.inr h100, rfl⟩⟩
      · have hmin : min (G.sizeOf T Q) 101 = G.sizeOf T Q := by omega
        have h100' : ¬ (100 : Int) < (G.sizeOf T Q : Int) := by omega
        go_enter Tryz.func13, Tryz.ntmps13
        go_wp2_with (first
          | (go_at_call 52; refine hNw.mono ?_; rintro e w3 ⟨rfl, ⟨v, V, hM3⟩, hb3⟩)
          | (go_at_call 51; refine (sclone_any s w2 (by omega)).mono ?_; rintro e w4 ⟨rfl, hb4⟩; have hTr4 := hTr.below hb4; have hNw := new_any w4 I T B Q _ hwf hTr4 (Rf.own_same hrow (fun k e => hb4.block k (hrow.lt k e).2)) hq hql (by rw [G.len_flatMap, G.sizeOf_pls hwf Q hq (by omega)]; omega))
          | (go_at_call 50; refine hTo.mono ?_; rintro e w2 ⟨rfl, rfl⟩)
          | (go_at_call 49; refine hR.mono ?_; rintro e w1 ⟨hb1, vR, I, B, rfl, hTr, hwf, hrow, hq, hql⟩; have hTo := total_any w1 T B Q vR hrow hql (fun p hp => hTr.places hwf p (hq p hp)) (fun p hp => by rw [G.sz_eq (List.getElem?_eq_getElem (hq p hp))]; exact hwf.le _ (List.getElem_mem _)); rw [hmin] at hTo; obtain ⟨va, vc, hve⟩ := Rf.own_len hrow; subst hve))
        go_ret3
        have hba : Below w3.heap.size w3 (w3.alloc (.cells #[.string s, .int .i64 (Q.length : Int), pv w4.heap.size] 113)) := (Below.refl _ _).alloc (Nat.le_refl _) _
        have hz3 := hb3.size
        have hz1 := hb1.size
        have hz4 := hb4.size
        refine ⟨((hb1.trans (hb4.mono hz1)).trans (hb3.mono (by omega))).trans (hba.mono (by omega)), .inr ⟨⟨by omega, by omega⟩, _, by omega, rfl, ⟨I, w4.heap.size, v, V, ⟨s, hs, hr, heap_alloc_new w3 _⟩, hM3.below (fun k hk => by have := hTr4.lt k hk; omega) hba, fun k hk => ?_⟩⟩⟩
        have := hTr4.lt k hk
        simp
        omega

end Pr
end Go.Proofs.YtpgcidpghmoibaaGreatDoor

namespace Go.Proofs.YtpgcidpghmoibaaGreatDoor
namespace Pr
open Go.RowKit
open G (PNode)

set_option maxRecDepth 100000 in
theorem lnum_any (n : Int) (w : World) : Calls Tryz.prog 35 #[.int .i64 n] w fun e w' => e = .returned (.int .i64 n) ∧ w' = w := by
  go_enter Tryz.func35, Tryz.ntmps35
  go_wp2
  go_ret
  exact ⟨rfl, rfl⟩

/-- Rules of both sides that mean the same. -/
structure Both (w : World) (b q : Nat) (T : List PNode) (Q : List Nat) : Prop where
  pr : PRul w b T Q
  rf : Rf.Made q w T Q
  wf : G.WF T
  lt : ∀ p ∈ Q, p < T.length
  few : Q.length ≤ 50
  sz : G.sizeOf T Q ≤ 100
  fe : G.Few 2001 T
  tl : T.length ≤ 8000
def CPost (w : World) (e : Ending) (w' : World) : Prop :=
  Below w.heap.size w w' ∧ ((∃ q, e = .returned (.tuple #[.pointer none, pv q, .bool true])) ∨ ∃ b q T Q, e = .returned (.tuple #[pv b, pv q, .bool true]) ∧ Both w' b q T Q)

set_option maxRecDepth 100000 in
set_option maxHeartbeats 2000000 in
theorem compiled_any (w : World) (s : ByteArray) (hm : s.size ≤ maxLen) (hT : Tabs w) : Calls Tryz.prog 14 #[.string s] w fun e w' => CPost w e w' := by
  by_cases hs : 2000 < s.size
  · have hP := pcomp_long w s hs hm
    have hR := Rf.comp_long w s hs hm
    go_enter Tryz.func14, Tryz.ntmps14
    go_wp2_with (first
      | (go_at_call 35; refine (lnum_any _ _).mono ?_; rintro e w9 ⟨rfl, rfl⟩)
      | (go_at_call 13; refine hP.mono ?_; rintro e w1 ⟨rfl, rfl⟩)
      | (go_at_call 53; refine hR.mono ?_; rintro e w2 ⟨rfl, hb2⟩))
    go_ret3
    exact ⟨hb2, .inl ⟨_, rfl⟩⟩
  · have hs2 : s.size ≤ 2000 := by omega
    obtain ⟨e0, w0, _, ⟨_, r, hsrc, hpost⟩, _⟩ := Rf.comp_whole w s hs2 []
    have hfew := hsrc.few (Nat.zero_le _) (G.Few.nil _)
    have hlong := hsrc.long (Nat.zero_le _) (fun k x hx => by simp at hx) (fun x hx => by simp at hx) (Nat.zero_le _) (Nat.zero_le _)
    cases r with
    | err c p =>
      obtain ⟨hc, _⟩ := hpost
      have hP := pcomp_any w s (.err c p) hs2 hT hsrc (fun c' p' e => by cases e; exact hc)
      have hcb : ((c : Int) != 0) = true := by simp; omega
      have hcz : ¬ (c : Int) = 0 := by omega
      unfold PComp at hP
      go_enter Tryz.func14, Tryz.ntmps14
      go_wp2_with (first
        | (go_at_call 35; refine (lnum_any _ _).mono ?_; rintro e w9 ⟨rfl, rfl⟩)
        | (go_at_call 13; refine hP.mono ?_; rintro e w1 ⟨hb1, rfl⟩)
        | (go_at_call 53; refine (Rf.comp_whole _ s hs2).mono ?_; rintro e w2 ⟨hb2, r', hsrc', hm'⟩; have hrr := hsrc.det _ hsrc'; subst hrr; obtain ⟨_, rfl⟩ := hm'))
      go_ret3
      exact ⟨hb1.trans (hb2.mono hb1.size), .inl ⟨_, rfl⟩⟩
    | ok Q T =>
      have hP := pcomp_any w s (.ok Q T) hs2 hT hsrc (fun c' p' e => by cases e)
      unfold PComp at hP
      simp only at hP
      obtain ⟨hwf, hq, hpost⟩ := hpost
      by_cases hbig : 50 < Q.length ∨ 100 < G.sizeOf T Q
      · go_enter Tryz.func14, Tryz.ntmps14
        go_wp2_with (first
        | (go_at_call 35; refine (lnum_any _ _).mono ?_; rintro e w9 ⟨rfl, rfl⟩)
        | (go_at_call 13; refine hP.mono ?_; rintro e w1 ⟨hb1, ⟨_, rfl⟩ | ⟨hno, _⟩⟩; rotate_left; exact absurd hbig (by omega))
          | (go_at_call 53; refine (Rf.comp_whole _ s hs2).mono ?_; rintro e w2 ⟨hb2, r', hsrc', hm'⟩; have hrr := hsrc.det _ hsrc'; subst hrr; obtain ⟨_, _, hm'⟩ := hm'; rcases hm' with ⟨_, rfl⟩ | ⟨hno, _⟩; rotate_left; exact absurd hbig (by omega)))
        go_ret3
        exact ⟨hb1.trans (hb2.mono hb1.size), .inl ⟨_, rfl⟩⟩
      · go_enter Tryz.func14, Tryz.ntmps14
        go_wp2_with (first
        | (go_at_call 35; refine (lnum_any _ _).mono ?_; rintro e w9 ⟨rfl, rfl⟩)
        | (go_at_call 13; refine hP.mono ?_; rintro e w1 ⟨hb1, ⟨hno, _⟩ | ⟨_, b, hbl, rfl, hpr⟩⟩; exact absurd hno hbig)
          | (go_at_call 53; refine (Rf.comp_whole _ s hs2).mono ?_; rintro e w2 ⟨hb2, r', hsrc', hm'⟩; have hrr := hsrc.det _ hsrc'; subst hrr; obtain ⟨_, _, hm'⟩ := hm'; rcases hm' with ⟨hno, _⟩ | ⟨_, hmade, rfl⟩; exact absurd hno hbig))
        go_ret3
        refine ⟨hb1.trans (hb2.mono hb1.size), .inr ⟨_, _, T, Q, rfl, ⟨hpr.below hb2, hmade, hwf, hq, by omega, by omega, ?_, ?_⟩⟩⟩
        · exact fun x hx => by have := hfew x hx; omega
        · have := hlong.1; omega

end Pr
end Go.Proofs.YtpgcidpghmoibaaGreatDoor

namespace Go.Proofs.YtpgcidpghmoibaaGreatDoor
namespace Pr
open Go.RowKit
open G (PNode)

theorem places_eq {T : List PNode} {Q : List Nat} (hT : G.WF T) (hQ : ∀ q ∈ Q, q < T.length) (h : G.sizeOf T Q ≤ 100) : (Q.flatMap (G.lv T)).length = G.sizeOf T Q := by
  rw [G.len_flatMap, G.sizeOf_pls hT Q hQ h]

/-- What is asked of the program's rules, in a world with more memory. -/
theorem ask_count {w : World} {b : Nat} {T : List PNode} {Q : List Nat} (h : PRul w b T Q) (d : Nat) (os : Array Obj) : Calls Tryz.prog 16 #[pv b] (Sort.grow (redrawn w d) os) fun e w'' => e = .returned (.int .i64 (Q.length : Int)) ∧ ∃ p : Regrown, w'' = Sort.grow (redrawn w p.d) p.os :=
  Calls.regrown_of ((count_any _ b T Q (h.below (below_regrown w d os))).mono (fun _ _ ⟨h1, h2⟩ => ⟨h1, by rw [h2]; exact Below.refl _ _⟩))
theorem ask_places {w : World} {b : Nat} {T : List PNode} {Q : List Nat} (h : PRul w b T Q) (hT : G.WF T) (hQ : ∀ q ∈ Q, q < T.length) (hs : G.sizeOf T Q ≤ 100) (d : Nat) (os : Array Obj) : Calls Tryz.prog 17 #[pv b] (Sort.grow (redrawn w d) os) fun e w'' => e = .returned (.int .i64 (G.sizeOf T Q : Int)) ∧ ∃ p : Regrown, w'' = Sort.grow (redrawn w p.d) p.os := by
  have h1 := pplaces_any _ b T Q (h.below (below_regrown w d os)) hT hQ
  rw [places_eq hT hQ hs] at h1
  exact Calls.regrown_of (h1.mono (fun _ _ ⟨h1, h2⟩ => ⟨h1, by rw [h2]; exact Below.refl _ _⟩))
theorem ask_rplaces {w : World} {q : Nat} {T : List PNode} {Q : List Nat} {cs : Array Value} {vN vR : Value} {V : List (Value × Value)} (h : Rf.RoAt w q T Q cs vN vR V) (hT : G.WF T) (hQ : ∀ q ∈ Q, q < T.length) (hql : Q.length ≤ 50) (htl : T.length ≤ 8000) (d : Nat) (os : Array Obj) : Calls Tryz.prog 18 #[pv q] (Sort.grow (redrawn w d) os) fun e w'' => e = .returned (.int .i64 (G.sizeOf T Q : Int)) ∧ ∃ p : Regrown, w'' = Sort.grow (redrawn w p.d) p.os :=
  Calls.regrown_of ((Rf.places_any _ q T Q cs vN vR V (h.below (below_regrown w d os)) hQ hT.le (by omega) (by omega)).mono (fun _ _ ⟨h1, n, h2⟩ => ⟨h1, by rw [h2]; exact below_drewN (Below.refl _ _) n⟩))
theorem ask_rsame {w : World} {q : Nat} {T : List PNode} {Q : List Nat} {cs : Array Value} {vN vR : Value} {V : List (Value × Value)} (h : Rf.RoAt w q T Q cs vN vR V) (hT : G.WF T) (hQ : ∀ q ∈ Q, q < T.length) (hql : Q.length ≤ 50) (htl : T.length ≤ 8000) (hf : G.Few 2001 T) (a c : Int) (d : Nat) (os : Array Obj) : Calls Tryz.prog 19 #[pv q, .int .i64 a, .int .i64 c] (Sort.grow (redrawn w d) os) fun e w'' => e = .returned (.bool (!(Q.any (G.tellB T a c)))) ∧ ∃ p : Regrown, w'' = Sort.grow (redrawn w p.d) p.os :=
  Calls.regrown_of (Rf.same_any _ q T Q a c cs vN vR V (h.below (below_regrown w d os)) hT (by omega) (fun x hx => by have := hf x hx; omega) hQ (by omega))

set_option maxRecDepth 100000 in
set_option maxHeartbeats 4000000 in
theorem lawc_any (w : World) (s : ByteArray) (a c : Int) (hm : s.size ≤ maxLen) (hT : Tabs w) (ha : -2147483648 ≤ a ∧ a ≤ 2147483647) (hc : -2147483648 ≤ c ∧ c ≤ 2147483647) :
    Calls Tryz.prog 3 #[.string s, .int .i32 a, .int .i32 c] w fun e w' => e = .returned (.bool true) ∧ Below w.heap.size w w' := by
  have hOne : Calls Tryz.prog 13 #[.string ⟨#[91, 97, 45, 122, 93, 43, 59]⟩] w fun e w' => ∃ b, e = .returned (.tuple #[pv b, .int .i64 0, .int .i64 0]) ∧ PRul w' b G.wordsT ([] ++ [G.wT3.length]) ∧ Below w.heap.size w w' := by
    refine (pcomp_any w G.wordsB _ (by decide) hT G.words_src (fun _ _ e => by cases e)).mono ?_
    rintro e w' ⟨hb, ⟨hno, _⟩ | ⟨_, b, _, rfl, hp⟩⟩
    · rw [G.words_size] at hno
      simp at hno
    · exact ⟨b, rfl, hp, hb⟩
  have hfi := G.words_src.long (Nat.zero_le _) (fun k x hx => by simp at hx) (fun x hx => by simp at hx) (Nat.zero_le _) (Nat.zero_le _)
  obtain ⟨e0, w0, _, ⟨_, r0, hsrc0, hpost0⟩, _⟩ := Rf.comp_whole w G.wordsB (by decide) []
  have hr0 := G.words_src.det _ hsrc0
  subst hr0
  obtain ⟨hwf0, hq0, _⟩ := hpost0
  clear hsrc0 hfi
  have hwa : IntKind.i64.wrap a = a := by rw [IntKind.wrap_i64]; omega
  have hwc : IntKind.i64.wrap c = c := by rw [IntKind.wrap_i64]; omega
  go_enter Tryz.func3, Tryz.ntmps3
  go_wp2_with (first
    | (go_at_call 15; refine hSa.mono ?_; rintro e w3 ⟨rfl, hb3⟩)
    | (go_at_call 14
       refine (compiled_any _ s hm (hT.below hb1)).mono ?_
       rintro e w2 ⟨hb2, ⟨q, rfl⟩ | ⟨b, q, T, Q, rfl, hB⟩⟩
       rotate_left
       have hSa := psame_any w2 b T Q hB.pr hB.wf hB.lt (by rw [places_eq hB.wf hB.lt hB.sz]; exact hB.sz) a c
       rotate_left)
    | (go_at_call 13; refine hOne.mono ?_; rintro e w1 ⟨b1, rfl, hp1, hb1⟩))
  · go_ret
    exact ⟨rfl, hb1.trans (hb2.mono hb1.size)⟩
  · have hz1 := hb1.size
    have hz2 := hb2.size
    have hB3 : Below w.heap.size w w3 := (hb1.trans (hb2.mono hz1)).trans (hb3.mono (by omega))
    have hp3 := hB.pr.below hb3
    have hp0 := (hp1.below hb2).below hb3
    obtain ⟨S, M, L, B, F, hSa', _⟩ := hB.rf
    obtain ⟨cs, vN, vR, vS, vB, vF, V, W, hA, _⟩ := hSa'
    have hro := hA.ro.below hb3
    have hC := ask_count hp3
    have hC1 : ∀ d os, Calls Tryz.prog 16 #[pv b1] (Sort.grow (redrawn w3 d) os) fun e w'' => e = .returned (.int .i64 1) ∧ ∃ p : Regrown, w'' = Sort.grow (redrawn w3 p.d) p.os := ask_count hp0
    have hP := ask_places hp3 hB.wf hB.lt hB.sz
    have hP1 := ask_places hp0 hwf0 hq0 (by rw [G.words_size]; omega)
    rw [G.words_size] at hP1
    have hRP := ask_rplaces hro hB.wf hB.lt hB.few hB.tl
    have hRS := ask_rsame hro hB.wf hB.lt hB.few hB.tl hB.fe a c
    obtain ⟨ra, rc, hre⟩ := Rf.own_len hro.oR
    subst hre
    have q7 : ∀ d os, (Sort.grow (redrawn w3 d) os).cell? ⟨q, 7, none⟩ = some (.slice ra Q.length rc) := fun d os => cell_regrown (Rf.cell_blk hro.blk 7 _ hro.c7) d os
    have HB : Hid _ := hB3
    clear hp3 hp0 hro hA hB hB3 hOne hwf0 hq0 hSa hp1
    generalize (!(Q.any (G.tellB T a c))) = bb at *
    generalize G.sizeOf T Q = sz at *
    generalize Q.length = ql at *
    refine wp_region_quiet_below (by kernel_rfl) (by kernel_rfl) ?_
    repeat (first | go_big_quiet_step (first | exact hC1 _ _ | exact hP1 _ _ | exact hC _ _ | exact hP _ _ | exact hRP _ _ | exact hRS _ _) | quiet_step (first | exact hC1 _ _ | exact hP1 _ _ | exact hC _ _ | exact hP _ _ | exact hRP _ _ | exact hRS _ _))
    refine wpQuiet_nil ?_
    intro _ hw'
    obtain ⟨⟨dq, osq⟩, hw''⟩ := hw'
    subst hw''
    have hbel : Below w.heap.size w (Sort.grow (redrawn w3 dq) osq) := HB.out.trans ((below_regrown w3 dq osq).mono HB.out.size)
    have HB2 : Hid _ := hbel
    clear hbel hC hC1 hP hP1 hRP hRS q7
    go_wp2
    go_ret
    exact ⟨rfl, HB2.out⟩

end Pr
end Go.Proofs.YtpgcidpghmoibaaGreatDoor
