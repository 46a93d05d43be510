/-
  THE PROGRAM's RULES, asked: the walks of Machine.Places, Machine.Same, and of seam's Compile, Count, Places, Same. Conditions: the source has at most 2000 bytes (or more: then nothing is read); the library's tables lie in memory as the text lays them.
  THE PROGRAM's calls: the walks of seam's Compile, Count, Places, Same. Conditions: the source has at most 2000 bytes (or more: then nothing is read); the library's tables lie in memory as the text lays them.
  THE LAW's HELPER compiled: the program and the reference read one source and answer alike. Conditions: the source is no longer than a string can be; the library's tables lie in memory as the text lays them.
  THE PROGRAM's BITS as sets of places, without the program: what is in two words that were made of others. Nothing of the program is run here. Conditions stand at each fact.
-/
import Derived.Test.YtpgcidpghmoibaaGreatDoorJ34
import Derived.Test.YtpgcidpghmoibaaGreatDoorJ39
import Derived.Test.YtpgcidpghmoibaaGreatDoorJ08
import Derived.Test.YtpgcidpghmoibaaGreatDoorJ03
import Derived.Test.YtpgcidpghmoibaaGreatDoorJ20
import Derived.Laws.Bits64b
import Derived.Test.YtpgcidpghmoibaaGreatDoorJ31
namespace Go.Proofs.YtpgcidpghmoibaaGreatDoor
namespace Pr
open Go.RowKit
open Rf (Kept Lies)
open G (PNode)

set_option maxRecDepth 100000 in
set_option maxHeartbeats 1000000 in
theorem mplaces_any (w : World) (I : Nat → Prop) (b : Nat) (v : Value) (P : List Pl) (V : List Value) (f : PB) (hM : MaAt w I b v P V f) :
    Calls Tryz.prog 55 #[pv b] w fun e w' => e = .returned (.int .i64 (P.length : Int)) ∧ w' = w := by
  obtain ⟨va, vc, hve⟩ := Rf.own_len hM.row
  subst hve
  have m0 := Rf.cell_blk hM.blk 0 (.slice va P.length vc) rfl
  go_enter Tryz.func55, Tryz.ntmps55
  go_wp2
  go_ret
  exact ⟨rfl, rfl⟩

/-- Do places tell two numbers apart? -/
def tellP (X : List PNode) (a c : Int) : Bool := X.any fun x => G.inV x a != G.inV x c

set_option maxRecDepth 100000 in
set_option maxHeartbeats 2000000 in
theorem msame_any (w : World) (I : Nat → Prop) (b : Nat) (v : Value) (P : List Pl) (V : List Value) (f : PB) (hM : MaAt w I b v P V f) (hI : ∀ k, I k → k < w.heap.size) (hn : P.length ≤ 100) (a c : Int) :
    Calls Tryz.prog 54 #[pv b, .int .i32 a, .int .i32 c] w fun e w' => e = .returned (.bool (!(tellP (xs P) a c))) ∧ Below w.heap.size w w' := by
  obtain ⟨va, vc, hve⟩ := Rf.own_len hM.row
  subst hve
  have m0 := Rf.cell_blk hM.blk 0 (.slice va P.length vc) rfl
  go_enter Tryz.func54, Tryz.ntmps54
  go_wp2
  clear m0
  go_loopw [8, 14] (fun _ vk wr => ∃ k : Nat, vk = .int .i64 k ∧ k ≤ P.length ∧ tellP (xs (P.take k)) a c = false ∧ Below w.heap.size w wr) (fun _ vk _ => P.length - (intOf vk).toNat)
  case atStart => exact ⟨0, rfl, Nat.zero_le _, rfl, Below.refl _ _⟩
  case round =>
    obtain ⟨k, rfl, hk, ht, hbw⟩ := hrel
    have HT : Hid _ := ht
    clear ht
    by_cases hlt : k < P.length
    · have hlt' : (k : Int) < (P.length : Int) := by omega
      have hM1 := hM.below hI hbw
      have hp : P[k]? = some (P[k]'hlt) := List.getElem?_eq_getElem _
      generalize P[k]'hlt = p at hp
      have hu : V[k]? = some (V[k]'(by rw [hM.len]; exact hlt)) := List.getElem?_eq_getElem _
      generalize V[k]'(by rw [hM.len]; exact hlt) = u at hu
      obtain ⟨rs, hrow, hok, hui⟩ := hM1.sets k p u hp hu
      obtain ⟨ua, uc, hue⟩ := Rf.own_len hrow
      subst hue
      have hrw := hM1.row
      obtain ⟨g, cap, hve, _, _⟩ := hrw.form (by omega)
      simp only [Value.slice.injEq] at hve
      obtain ⟨rfl, _, rfl⟩ := hve
      have d0 : wr.cell? ⟨g, k * 6, none⟩ = some (.slice ua rs.length uc) := own_cell' hrw (k * 6 + 0) ((pcells_get hp hu 0 (by omega)).trans rfl)
      have d1 : wr.cell? ⟨g, k * 6 + 1, none⟩ = some (.bool p.x.other) := own_cell' hrw (k * 6 + 1) ((pcells_get hp hu 1 (by omega)).trans rfl)
      have d2 : wr.cell? ⟨g, k * 6 + 2, none⟩ = some (.int .i64 (p.rule : Int)) := own_cell' hrw (k * 6 + 2) ((pcells_get hp hu 2 (by omega)).trans rfl)
      have d3 : wr.cell? ⟨g, k * 6 + 3, none⟩ = some (.bool p.last) := own_cell' hrw (k * 6 + 3) ((pcells_get hp hu 3 (by omega)).trans rfl)
      have d4 : wr.cell? ⟨g, k * 6 + 4, none⟩ = some (.int .u64 p.be.a) := own_cell' hrw (k * 6 + 4) ((pcells_get hp hu 4 (by omega)).trans rfl)
      have d5 : wr.cell? ⟨g, k * 6 + 5, none⟩ = some (.int .u64 p.be.c) := own_cell' hrw (k * 6 + 5) ((pcells_get hp hu 5 (by omega)).trans rfl)
      have hb1 : Below wr.heap.size wr (wr.alloc (.cells #[.slice ua rs.length uc, .bool p.x.other, .int .i64 (p.rule : Int), .bool p.last, .int .u64 p.be.a, .int .u64 p.be.c] 158)) := (Below.refl _ _).alloc (Nat.le_refl _) _
      have e0 := Rf.cell_blk (heap_alloc_new wr (.cells #[.slice ua rs.length uc, .bool p.x.other, .int .i64 (p.rule : Int), .bool p.last, .int .u64 p.be.a, .int .u64 p.be.c] 158)) 0 (.slice ua rs.length uc) rfl
      have e1 := Rf.cell_blk (heap_alloc_new wr (.cells #[.slice ua rs.length uc, .bool p.x.other, .int .i64 (p.rule : Int), .bool p.last, .int .u64 p.be.a, .int .u64 p.be.c] 158)) 1 (.bool p.x.other) rfl
      have hrow1 := Rf.own_same (w' := wr.alloc (.cells #[.slice ua rs.length uc, .bool p.x.other, .int .i64 (p.rule : Int), .bool p.last, .int .u64 p.be.a, .int .u64 p.be.c] 158)) hrow (fun j e => hb1.block j (hrow.lt j e).2)
      have hst : tellP (xs (P.take (k + 1))) a c = (tellP (xs (P.take k)) a c || (G.inV p.x a != G.inV p.x c)) := by
        rw [take_snoc hp]
        simp [tellP, xs, List.any_append]
      have hfull : (G.inV p.x a != G.inV p.x c) = true → tellP (xs P) a c = true := fun h => by
        unfold tellP xs
        rw [List.any_eq_true]
        exact ⟨p.x, List.mem_map.2 ⟨p, List.mem_of_getElem? hp, rfl⟩, h⟩
      have HS : Hid _ := And.intro hst hfull
      clear hst hfull
      go_upto_region 4 with fail
      clear d0 d1 d2 d3 d4 d5 hrw
      have hB1 : Below w.heap.size w (wr.alloc (.cells #[.slice ua rs.length uc, .bool p.x.other, .int .i64 (p.rule : Int), .bool p.last, .int .u64 p.be.a, .int .u64 p.be.c] 158)) := hbw.trans (hb1.mono hbw.size)
      generalize wr.alloc (.cells #[.slice ua rs.length uc, .bool p.x.other, .int .i64 (p.rule : Int), .bool p.last, .int .u64 p.be.a, .int .u64 p.be.c] 158) = w1 at *
      have hN : ∀ (y : Int) d os, Calls Tryz.prog 84 #[.agg #[.slice ua rs.length uc, .bool p.x.other], .int .i32 y] (Sort.grow (redrawn w1 d) os) fun e w'' => e = .returned (.bool (G.inV p.x y)) ∧ ∃ q : Regrown, w'' = Sort.grow (redrawn w1 q.d) q.os :=
        fun y d os => by
          have h1 := has_any (Sort.grow (redrawn w1 d) os) p.x.ranges p.x.other (.agg #[.slice ua rs.length uc, .bool p.x.other]) ⟨_, rs, rfl, Rf.own_same hrow1 (fun j e => (below_regrown w1 d os).block j (hrow1.lt j e).2), hok⟩ y
          rw [hasB_in] at h1
          exact Calls.regrown_of h1
      have q0 : ∀ d os, (Sort.grow (redrawn w1 d) os).cell? ⟨wr.heap.size, 0, none⟩ = some (.slice ua rs.length uc) := fun d os => cell_regrown e0 d os
      have q1 : ∀ d os, (Sort.grow (redrawn w1 d) os).cell? ⟨wr.heap.size, 1, none⟩ = some (.bool p.x.other) := fun d os => cell_regrown e1 d os
      clear e0 e1
      generalize G.inV p.x = F at *
      refine wp_region_quiet_below (by kernel_rfl) (by kernel_rfl) ?_
      repeat (first | go_big_quiet_step (exact hN _ _ _) | quiet_step (exact hN _ _ _))
      refine wpQuiet_nil ?_
      intro _ hw'
      obtain ⟨⟨dq, osq⟩, hw''⟩ := hw'
      subst hw''
      have hbel : Below w.heap.size w (Sort.grow (redrawn w1 dq) osq) := hB1.trans ((below_regrown w1 dq osq).mono hB1.size)
      have HB : Hid _ := hbel
      clear hbel q0 q1 hN
      have hS1 := HS.out.1
      have hS2 := HS.out.2
      generalize F a = ba at *
      generalize F c = bc at *
      have HS2 : Hid _ := And.intro hS1 hS2
      clear hS1 hS2 HS
      cases ba <;> cases bc
      · go_wp2
        refine ⟨⟨k + 1, by go_num, by omega, ?_, HB.out⟩, by simp [intOf]; omega⟩
        rw [HS2.out.1, HT.out]
        rfl
      · go_wp2
        go_ret
        refine ⟨?_, HB.out⟩
        rw [HS2.out.2 rfl]
        rfl
      · go_wp2
        go_ret
        refine ⟨?_, HB.out⟩
        rw [HS2.out.2 rfl]
        rfl
      · go_wp2
        refine ⟨⟨k + 1, by go_num, by omega, ?_, HB.out⟩, by simp [intOf]; omega⟩
        rw [HS2.out.1, HT.out]
        rfl
    · have e : k = P.length := by omega
      subst e
      have hlt' : ¬ (P.length : Int) < (P.length : Int) := by omega
      go_wp2
      go_ret
      refine ⟨?_, hbw⟩
      have := HT.out
      rw [List.take_length] at this
      rw [this]
      rfl

end Pr
end Go.Proofs.YtpgcidpghmoibaaGreatDoor

namespace Go.Proofs.YtpgcidpghmoibaaGreatDoor
namespace Pr
open Go.RowKit
open Rf (Kept Lies)
open G (PNode)

/-- The block of rules: their source, how many they are, their machine. -/
structure RuB (w : World) (b : Nat) (T : List PNode) (Q : List Nat) (m : Nat) : Prop where
  ex : ∃ s : ByteArray, s.size ≤ 2000 ∧ G.Src s 0 [] [] [] (.ok Q T) ∧ w.heap[b]? = some (.cells #[.string s, .int .i64 (Q.length : Int), pv m] 113 (0, 0))
theorem RuB.lt {w : World} {b : Nat} {T : List PNode} {Q : List Nat} {m : Nat} (h : RuB w b T Q m) : b < w.heap.size := by
  obtain ⟨s, _, _, h1⟩ := h.ex
  exact lt_of_block h1
theorem RuB.same {w w' : World} {b : Nat} {T : List PNode} {Q : List Nat} {m : Nat} (h : RuB w b T Q m) (e : w'.heap[b]? = w.heap[b]?) : RuB w' b T Q m := by
  obtain ⟨s, h2, h3, h1⟩ := h.ex
  exact ⟨s, h2, h3, e.trans h1⟩
theorem RuB.num {w : World} {b : Nat} {T : List PNode} {Q : List Nat} {m : Nat} (h : RuB w b T Q m) : w.cell? ⟨b, 1, none⟩ = some (.int .i64 (Q.length : Int)) := by
  obtain ⟨s, _, _, h1⟩ := h.ex
  exact Rf.cell_blk h1 1 _ rfl
theorem RuB.mach {w : World} {b : Nat} {T : List PNode} {Q : List Nat} {m : Nat} (h : RuB w b T Q m) : w.cell? ⟨b, 2, none⟩ = some (pv m) := by
  obtain ⟨s, _, _, h1⟩ := h.ex
  exact Rf.cell_blk h1 2 _ rfl

set_option maxRecDepth 100000 in
theorem sclone_any (s : ByteArray) (w : World) (hs : s.size ≤ 2000) : Calls Tryz.prog 51 #[.string s] w fun e w' => e = .returned (.string s) ∧ Below w.heap.size w w' := by
  have hC := Tryz.stringslite_Clone s w (by omega)
  go_enter Tryz.func51, Tryz.ntmps51
  go_wp2_with (go_at_call 78; refine hC.mono ?_; rintro e w1 ⟨rfl, hb1⟩)
  go_ret
  exact ⟨rfl, hb1⟩

/-- Rules at a block. -/
structure PRul (w : World) (b : Nat) (T : List PNode) (Q : List Nat) : Prop where
  ex : ∃ I m v V, RuB w b T Q m ∧ MaAt w I m v (machN T Q Q.length).1 V (machN T Q Q.length).2 ∧ ∀ k, I k → k < w.heap.size
theorem PRul.below {w w' : World} {b : Nat} {T : List PNode} {Q : List Nat} (h : PRul w b T Q) (hb : Below w.heap.size w w') : PRul w' b T Q := by
  obtain ⟨I, m, v, V, h1, h2, h3⟩ := h.ex
  exact ⟨I, m, v, V, h1.same (hb.block b h1.lt), h2.below h3 hb, fun k hk => Nat.lt_of_lt_of_le (h3 k hk) hb.size⟩

set_option maxRecDepth 100000 in
set_option maxHeartbeats 1000000 in
theorem count_any (w : World) (b : Nat) (T : List PNode) (Q : List Nat) (h : PRul w b T Q) : Calls Tryz.prog 16 #[pv b] w fun e w' => e = .returned (.int .i64 (Q.length : Int)) ∧ w' = w := by
  obtain ⟨I, m, v, V, h1, h2, h3⟩ := h.ex
  have c0 := h1.num
  go_enter Tryz.func16, Tryz.ntmps16
  go_wp2
  go_ret
  exact ⟨rfl, rfl⟩

set_option maxRecDepth 100000 in
set_option maxHeartbeats 1000000 in
theorem pplaces_any (w : World) (b : Nat) (T : List PNode) (Q : List Nat) (h : PRul w b T Q) (hT : G.WF T) (hQ : ∀ q ∈ Q, q < T.length) : Calls Tryz.prog 17 #[pv b] w fun e w' => e = .returned (.int .i64 ((Q.flatMap (G.lv T)).length : Int)) ∧ w' = w := by
  obtain ⟨I, m, v, V, h1, h2, h3⟩ := h.ex
  have c1 := h1.mach
  have hP := mplaces_any w I m v _ V _ h2
  have hl := machN_len hT hQ Q.length (Nat.le_refl _)
  rw [List.take_length] at hl
  rw [hl] at hP
  generalize (Q.flatMap (G.lv T)).length = N at *
  go_enter Tryz.func17, Tryz.ntmps17
  go_wp2_with (go_at_call 55; refine hP.mono ?_; rintro e w1 ⟨rfl, rfl⟩)
  go_ret
  exact ⟨rfl, rfl⟩

set_option maxRecDepth 100000 in
set_option maxHeartbeats 1000000 in
theorem psame_any (w : World) (b : Nat) (T : List PNode) (Q : List Nat) (h : PRul w b T Q) (hT : G.WF T) (hQ : ∀ q ∈ Q, q < T.length) (hsz : (Q.flatMap (G.lv T)).length ≤ 100) (a c : Int) : Calls Tryz.prog 15 #[pv b, .int .i32 a, .int .i32 c] w fun e w' => e = .returned (.bool (!(Q.any (G.tellB T a c)))) ∧ Below w.heap.size w w' := by
  obtain ⟨I, m, v, V, h1, h2, h3⟩ := h.ex
  have c1 := h1.mach
  have hl := machN_len hT hQ Q.length (Nat.le_refl _)
  have hx := machN_xs hT hQ Q.length (Nat.le_refl _)
  rw [List.take_length] at hl hx
  have hS := msame_any w I m v _ V _ h2 h3 (by omega) a c
  have he : tellP (xs (machN T Q Q.length).1) a c = Q.any (G.tellB T a c) := by
    rw [hx]
    unfold tellP G.tellB
    rw [List.any_flatMap]
  rw [he] at hS
  go_enter Tryz.func15, Tryz.ntmps15
  go_wp2_with (go_at_call 54; refine hS.mono ?_; rintro e w1 ⟨rfl, hb1⟩)
  go_ret
  exact ⟨rfl, hb1⟩

set_option maxRecDepth 100000 in
set_option maxHeartbeats 1000000 in
theorem pcomp_long (w : World) (s : ByteArray) (hs : 2000 < s.size) (_hm : s.size ≤ maxLen) :
    Calls Tryz.prog 13 #[.string s] w fun e w' => e = .returned (.tuple #[.pointer none, .int .i64 0, .int .i64 1]) ∧ w' = w := by
  have hs' : (2000 : Int) < (s.size : Int) := by omega
  go_enter Tryz.func13, Tryz.ntmps13
  go_wp2
  go_ret3
  exact ⟨rfl, rfl⟩

/-- What Compile leaves. -/
def PComp (w : World) (r : G.Fin') (e : Ending) (w' : World) : Prop :=
  Below w.heap.size w w' ∧ match r with
    | .err c p => e = .returned (.tuple #[.pointer none, .int .i64 (p : Int), .int .i64 (c : Int)])
    | .ok Q T => ((50 < Q.length ∨ 100 < G.sizeOf T Q) ∧ e = .returned (.tuple #[.pointer none, .int .i64 0, .int .i64 6])) ∨
      ((Q.length ≤ 50 ∧ G.sizeOf T Q ≤ 100) ∧ ∃ b, w.heap.size ≤ b ∧ e = .returned (.tuple #[pv b, .int .i64 0, .int .i64 0]) ∧ PRul w' b T Q)

set_option maxRecDepth 100000 in
set_option maxHeartbeats 2000000 in
theorem pcomp_any (w : World) (s : ByteArray) (r : G.Fin') (hs : s.size ≤ 2000) (hT : Tabs w) (hr : G.Src s 0 [] [] [] r) (hne : ∀ c p, r = .err c p → c ≠ 0) :
    Calls Tryz.prog 13 #[.string s] w fun e w' => PComp w r e w' := by
  have hs' : ¬ (2000 : Int) < (s.size : Int) := by omega
  have hR := read_any w s r hs hT hr
  cases r with
  | err c p =>
    have hc : ((c : Int) != 0) = true := by have := hne c p rfl; simp; omega
    unfold ReadP at hR
    go_enter Tryz.func13, Tryz.ntmps13
    go_wp2_with (go_at_call 49; refine hR.mono ?_; rintro e w1 ⟨hb1, rfl⟩)
    go_ret3
    exact ⟨hb1, rfl⟩
  | ok Q T =>
    unfold ReadP at hR
    by_cases h50 : 50 < Q.length
    · have h50' : (50 : Int) < (Q.length : Int) := by omega
      go_enter Tryz.func13, Tryz.ntmps13
      go_wp2_with (go_at_call 49; refine hR.mono ?_; rintro e w1 ⟨hb1, vR, I, B, rfl, hTr, hwf, hrow, hq, hql⟩; obtain ⟨va, vc, hve⟩ := Rf.own_len hrow; subst hve)
      go_ret3
      exact ⟨hb1, .inl ⟨.inl h50, rfl⟩⟩
    · have h50' : ¬ (50 : Int) < (Q.length : Int) := by omega
      by_cases h100 : 100 < G.sizeOf T Q
      · have hmin : min (G.sizeOf T Q) 101 = 101 := by omega
        go_enter Tryz.func13, Tryz.ntmps13
        go_wp2_with (first
          | (go_at_call 50; refine hTo.mono ?_; rintro e w2 ⟨rfl, rfl⟩)
          | (go_at_call 49; refine hR.mono ?_; rintro e w1 ⟨hb1, vR, I, B, rfl, hTr, hwf, hrow, hq, hql⟩; have hTo := total_any w1 T B Q vR hrow hql (fun p hp => hTr.places hwf p (hq p hp)) (fun p hp => by rw [G.sz_eq (List.getElem?_eq_getElem (hq p hp))]; exact hwf.le _ (List.getElem_mem _)); rw [hmin] at hTo; obtain ⟨va, vc, hve⟩ := Rf.own_len hrow; subst hve))
        go_ret3
        exact ⟨hb1, .inl ⟨.inr h100, rfl⟩⟩
      · have hmin : min (G.sizeOf T Q) 101 = G.sizeOf T Q := by omega
        have h100' : ¬ (100 : Int) < (G.sizeOf T Q : Int) := by omega
        go_enter Tryz.func13, Tryz.ntmps13
        go_wp2_with (first
          | (go_at_call 52; refine hNw.mono ?_; rintro e w3 ⟨rfl, ⟨v, V, hM3⟩, hb3⟩)
          | (go_at_call 51; refine (sclone_any s w2 (by omega)).mono ?_; rintro e w4 ⟨rfl, hb4⟩; have hTr4 := hTr.below hb4; have hNw := new_any w4 I T B Q _ hwf hTr4 (Rf.own_same hrow (fun k e => hb4.block k (hrow.lt k e).2)) hq hql (by rw [G.len_flatMap, G.sizeOf_pls hwf Q hq (by omega)]; omega))
          | (go_at_call 50; refine hTo.mono ?_; rintro e w2 ⟨rfl, rfl⟩)
          | (go_at_call 49; refine hR.mono ?_; rintro e w1 ⟨hb1, vR, I, B, rfl, hTr, hwf, hrow, hq, hql⟩; have hTo := total_any w1 T B Q vR hrow hql (fun p hp => hTr.places hwf p (hq p hp)) (fun p hp => by rw [G.sz_eq (List.getElem?_eq_getElem (hq p hp))]; exact hwf.le _ (List.getElem_mem _)); rw [hmin] at hTo; obtain ⟨va, vc, hve⟩ := Rf.own_len hrow; subst hve))
        go_ret3
        have hba : Below w3.heap.size w3 (w3.alloc (.cells #[.string s, .int .i64 (Q.length : Int), pv w4.heap.size] 113)) := (Below.refl _ _).alloc (Nat.le_refl _) _
        have hz3 := hb3.size
        have hz1 := hb1.size
        have hz4 := hb4.size
        refine ⟨((hb1.trans (hb4.mono hz1)).trans (hb3.mono (by omega))).trans (hba.mono (by omega)), .inr ⟨⟨by omega, by omega⟩, _, by omega, rfl, ⟨I, w4.heap.size, v, V, ⟨s, hs, hr, heap_alloc_new w3 _⟩, hM3.below (fun k hk => by have := hTr4.lt k hk; omega) hba, fun k hk => ?_⟩⟩⟩
        have := hTr4.lt k hk
        simp
        omega

end Pr
end Go.Proofs.YtpgcidpghmoibaaGreatDoor

namespace Go.Proofs.YtpgcidpghmoibaaGreatDoor
namespace Pr
open Go.RowKit
open G (PNode)

set_option maxRecDepth 100000 in
theorem lnum_any (n : Int) (w : World) : Calls Tryz.prog 35 #[.int .i64 n] w fun e w' => e = .returned (.int .i64 n) ∧ w' = w := by
  go_enter Tryz.func35, Tryz.ntmps35
  go_wp2
  go_ret
  exact ⟨rfl, rfl⟩

/-- Rules of both sides that mean the same. -/
structure Both (w : World) (b q : Nat) (T : List PNode) (Q : List Nat) : Prop where
  pr : PRul w b T Q
  rf : Rf.Made q w T Q
  wf : G.WF T
  lt : ∀ p ∈ Q, p < T.length
  few : Q.length ≤ 50
  sz : G.sizeOf T Q ≤ 100
  fe : G.Few 2001 T
  tl : T.length ≤ 8000
def CPost (w : World) (e : Ending) (w' : World) : Prop :=
  Below w.heap.size w w' ∧ ((∃ q, e = .returned (.tuple #[.pointer none, pv q, .bool true])) ∨ ∃ b q T Q, e = .returned (.tuple #[pv b, pv q, .bool true]) ∧ Both w' b q T Q)

set_option maxRecDepth 100000 in
set_option maxHeartbeats 2000000 in
theorem compiled_any (w : World) (s : ByteArray) (hm : s.size ≤ maxLen) (hT : Tabs w) : Calls Tryz.prog 14 #[.string s] w fun e w' => CPost w e w' := by
  by_cases hs : 2000 < s.size
  · have hP := pcomp_long w s hs hm
    have hR := Rf.comp_long w s hs hm
    go_enter Tryz.func14, Tryz.ntmps14
    go_wp2_with (first
      | (go_at_call 35; refine (lnum_any _ _).mono ?_; rintro e w9 ⟨rfl, rfl⟩)
      | (go_at_call 13; refine hP.mono ?_; rintro e w1 ⟨rfl, rfl⟩)
      | (go_at_call 53; refine hR.mono ?_; rintro e w2 ⟨rfl, hb2⟩))
    go_ret3
    exact ⟨hb2, .inl ⟨_, rfl⟩⟩
  · have hs2 : s.size ≤ 2000 := by omega
    obtain ⟨e0, w0, _, ⟨_, r, hsrc, hpost⟩, _⟩ := Rf.comp_whole w s hs2 []
    have hfew := hsrc.few (Nat.zero_le _) (G.Few.nil _)
    have hlong := hsrc.long (Nat.zero_le _) (fun k x hx => by simp at hx) (fun x hx => by simp at hx) (Nat.zero_le _) (Nat.zero_le _)
    cases r with
    | err c p =>
      obtain ⟨hc, _⟩ := hpost
      have hP := pcomp_any w s (.err c p) hs2 hT hsrc (fun c' p' e => by cases e; exact hc)
      have hcb : ((c : Int) != 0) = true := by simp; omega
      have hcz : ¬ (c : Int) = 0 := by omega
      unfold PComp at hP
      go_enter Tryz.func14, Tryz.ntmps14
      go_wp2_with (first
        | (go_at_call 35; refine (lnum_any _ _).mono ?_; rintro e w9 ⟨rfl, rfl⟩)
        | (go_at_call 13; refine hP.mono ?_; rintro e w1 ⟨hb1, rfl⟩)
        | (go_at_call 53; refine (Rf.comp_whole _ s hs2).mono ?_; rintro e w2 ⟨hb2, r', hsrc', hm'⟩; have hrr := hsrc.det _ hsrc'; subst hrr; obtain ⟨_, rfl⟩ := hm'))
      go_ret3
      exact ⟨hb1.trans (hb2.mono hb1.size), .inl ⟨_, rfl⟩⟩
    | ok Q T =>
      have hP := pcomp_any w s (.ok Q T) hs2 hT hsrc (fun c' p' e => by cases e)
      unfold PComp at hP
      simp only at hP
      obtain ⟨hwf, hq, hpost⟩ := hpost
      by_cases hbig : 50 < Q.length ∨ 100 < G.sizeOf T Q
      · go_enter Tryz.func14, Tryz.ntmps14
        go_wp2_with (first
        | (go_at_call 35; refine (lnum_any _ _).mono ?_; rintro e w9 ⟨rfl, rfl⟩)
        | (go_at_call 13; refine hP.mono ?_; rintro e w1 ⟨hb1, ⟨_, rfl⟩ | ⟨hno, _⟩⟩; rotate_left; exact absurd hbig (by omega))
          | (go_at_call 53; refine (Rf.comp_whole _ s hs2).mono ?_; rintro e w2 ⟨hb2, r', hsrc', hm'⟩; have hrr := hsrc.det _ hsrc'; subst hrr; obtain ⟨_, _, hm'⟩ := hm'; rcases hm' with ⟨_, rfl⟩ | ⟨hno, _⟩; rotate_left; exact absurd hbig (by omega)))
        go_ret3
        exact ⟨hb1.trans (hb2.mono hb1.size), .inl ⟨_, rfl⟩⟩
      · go_enter Tryz.func14, Tryz.ntmps14
        go_wp2_with (first
        | (go_at_call 35; refine (lnum_any _ _).mono ?_; rintro e w9 ⟨rfl, rfl⟩)
        | (go_at_call 13; refine hP.mono ?_; rintro e w1 ⟨hb1, ⟨hno, _⟩ | ⟨_, b, hbl, rfl, hpr⟩⟩; exact absurd hno hbig)
          | (go_at_call 53; refine (Rf.comp_whole _ s hs2).mono ?_; rintro e w2 ⟨hb2, r', hsrc', hm'⟩; have hrr := hsrc.det _ hsrc'; subst hrr; obtain ⟨_, _, hm'⟩ := hm'; rcases hm' with ⟨hno, _⟩ | ⟨_, hmade, rfl⟩; exact absurd hno hbig))
        go_ret3
        refine ⟨hb1.trans (hb2.mono hb1.size), .inr ⟨_, _, T, Q, rfl, ⟨hpr.below hb2, hmade, hwf, hq, by omega, by omega, ?_, ?_⟩⟩⟩
        · exact fun x hx => by have := hfew x hx; omega
        · have := hlong.1; omega

end Pr
end Go.Proofs.YtpgcidpghmoibaaGreatDoor

namespace Go.Proofs.YtpgcidpghmoibaaGreatDoor
namespace Pr
open G (PNode)

theorem hasI_nat (a j : Nat) (ha : a < 18446744073709551616) : hasI (a : Int) j = a.testBit j := by
  unfold hasI
  have e : (a : Int) / 2 ^ j = ((a / 2 ^ j : Nat) : Int) := by simp
  have hlt : a / 2 ^ j < 18446744073709551616 := Nat.lt_of_le_of_lt (Nat.div_le_self _ _) ha
  have h1 := bits_and_u64_nat (a / 2 ^ j) 1 hlt (by omega)
  rw [e, show (1 : Int) = ((1 : Nat) : Int) from rfl, h1, Nat.and_one_is_mod, Nat.testBit_eq_decide_div_mod_eq]
  by_cases h : a / 2 ^ j % 2 = 1
  · simp [h]
  · have h0 : a / 2 ^ j % 2 = 0 := by omega
    simp [h0]
theorem orI_nat (a b : Nat) (ha : a < 18446744073709551616) (hb : b < 18446744073709551616) : orI (a : Int) (b : Int) = ((a ||| b : Nat) : Int) := bits_or_u64_nat a b ha hb
theorem pow_lt64 (j : Nat) (hj : j < 64) : 2 ^ j < 18446744073709551616 := by
  have : 2 ^ j < 2 ^ 64 := Nat.pow_lt_pow_right (by omega) hj
  simpa using this
theorem withI_nat (a j : Nat) (ha : a < 18446744073709551616) (hj : j < 64) : withI (a : Int) j = ((a ||| 2 ^ j : Nat) : Int) := by
  unfold withI
  have h2 := pow_lt64 j hj
  have e : IntKind.u64.wrap (2 ^ j) = ((2 ^ j : Nat) : Int) := by
    have h3 : (2 : Int) ^ j = ((2 ^ j : Nat) : Int) := by simp
    rw [h3, IntKind.wrap_u64]
    generalize (2 ^ j : Nat) = m at *
    omega
  rw [e]
  exact bits_or_u64_nat a (2 ^ j) ha h2

/-- Two words of 64 bits. -/
def PB.Ok (x : PB) : Prop := ∃ a c : Nat, a < 18446744073709551616 ∧ c < 18446744073709551616 ∧ x = ⟨(a : Int), (c : Int)⟩
theorem PB.ok_zero : PB.zero.Ok := ⟨0, 0, by omega, by omega, rfl⟩
theorem or_lt64 {a b : Nat} (ha : a < 18446744073709551616) (hb : b < 18446744073709551616) : a ||| b < 18446744073709551616 := by
  have : a ||| b < 2 ^ 64 := Nat.or_lt_two_pow (by simpa using ha) (by simpa using hb)
  simpa using this
theorem PB.Ok.or {x y : PB} (hx : x.Ok) (hy : y.Ok) : (x.or y).Ok := by
  obtain ⟨a, c, ha, hc, rfl⟩ := hx
  obtain ⟨b, d, hb, hd, rfl⟩ := hy
  exact ⟨a ||| b, c ||| d, or_lt64 ha hb, or_lt64 hc hd, by simp only [PB.or, orI_nat a b ha hb, orI_nat c d hc hd]⟩
theorem PB.Ok.with {x : PB} (hx : x.Ok) (i : Nat) : (x.with i).Ok := by
  obtain ⟨a, c, ha, hc, rfl⟩ := hx
  have hj : i % 64 < 64 := Nat.mod_lt _ (by omega)
  unfold PB.with
  split
  · exact ⟨a ||| 2 ^ (i % 64), c, or_lt64 ha (pow_lt64 _ hj), hc, by simp only [withI_nat a _ ha hj]⟩
  · exact ⟨a, c ||| 2 ^ (i % 64), ha, or_lt64 hc (pow_lt64 _ hj), by simp only [withI_nat c _ hc hj]⟩
theorem PB.has_or {x y : PB} (hx : x.Ok) (hy : y.Ok) (i : Nat) : (x.or y).has i = (x.has i || y.has i) := by
  obtain ⟨a, c, ha, hc, rfl⟩ := hx
  obtain ⟨b, d, hb, hd, rfl⟩ := hy
  simp only [PB.has, PB.or, orI_nat a b ha hb, orI_nat c d hc hd, hasI_nat _ _ ha, hasI_nat _ _ hb, hasI_nat _ _ hc, hasI_nat _ _ hd, hasI_nat _ _ (or_lt64 ha hb), hasI_nat _ _ (or_lt64 hc hd), Nat.testBit_or]
  split <;> rfl
theorem PB.has_zero (i : Nat) : PB.zero.has i = false := by
  have h := hasI_nat 0 (i % 64) (by omega)
  simp only [Nat.zero_testBit] at h
  have h' : hasI 0 (i % 64) = false := h
  simp [PB.has, PB.zero, h']
theorem PB.has_with {x : PB} (hx : x.Ok) (i j : Nat) (hi : i < 128) (hj : j < 128) : (x.with i).has j = (x.has j || decide (i = j)) := by
  obtain ⟨a, c, ha, hc, rfl⟩ := hx
  have hm : i % 64 < 64 := Nat.mod_lt _ (by omega)
  by_cases h1 : i < 64
  · simp only [PB.with, if_pos h1, PB.has, withI_nat a _ ha hm]
    by_cases h2 : j < 64
    · simp only [if_pos h2, hasI_nat _ _ ha, hasI_nat _ _ (or_lt64 ha (pow_lt64 _ hm)), Nat.testBit_or, Nat.testBit_two_pow]
      rw [Nat.mod_eq_of_lt h1, Nat.mod_eq_of_lt h2]
    · simp only [if_neg h2]
      have : decide (i = j) = false := by simp; omega
      rw [this, Bool.or_false]
  · simp only [PB.with, if_neg h1, PB.has, withI_nat c _ hc hm]
    by_cases h2 : j < 64
    · simp only [if_pos h2]
      have : decide (i = j) = false := by simp; omega
      rw [this, Bool.or_false]
    · simp only [if_neg h2, hasI_nat _ _ hc, hasI_nat _ _ (or_lt64 hc (pow_lt64 _ hm)), Nat.testBit_or, Nat.testBit_two_pow]
      have : decide (i % 64 = j % 64) = decide (i = j) := by rw [decide_eq_decide]; omega
      rw [this]
/-- No place at all: both words are 0. -/
theorem PB.zero_of {x : PB} (hx : x.Ok) (h : ∀ i, i < 128 → x.has i = false) : x = PB.zero := by
  obtain ⟨a, c, ha, hc, rfl⟩ := hx
  have big : ∀ n j : Nat, n < 18446744073709551616 → 64 ≤ j → n.testBit j = false := fun n j hn hj => Nat.testBit_lt_two_pow (Nat.lt_of_lt_of_le hn (by
    have : 2 ^ 64 ≤ 2 ^ j := Nat.pow_le_pow_right (by omega) hj
    simpa using this))
  have ea : a = 0 := Nat.eq_of_testBit_eq fun j => by
    rw [Nat.zero_testBit]
    by_cases hj : j < 64
    · have := h j (by omega)
      simp only [PB.has, if_pos hj, hasI_nat _ _ ha, Nat.mod_eq_of_lt hj] at this
      exact this
    · exact big a j ha (by omega)
  have ec : c = 0 := Nat.eq_of_testBit_eq fun j => by
    rw [Nat.zero_testBit]
    by_cases hj : j < 64
    · have := h (j + 64) (by omega)
      simp only [PB.has, if_neg (show ¬ j + 64 < 64 by omega), hasI_nat _ _ hc] at this
      rw [show (j + 64) % 64 = j by omega] at this
      exact this
    · exact big c j hc (by omega)
  subst ea ec
  rfl

/-- The places of a set. -/
def hP (x : PB) (i : Nat) : Prop := i < 128 ∧ x.has i = true
theorem hP_zero (i : Nat) : ¬ hP PB.zero i := fun h => by rw [hP, PB.has_zero] at h; simp at h
theorem hP_or {x y : PB} (hx : x.Ok) (hy : y.Ok) (i : Nat) : hP (x.or y) i ↔ hP x i ∨ hP y i := by
  unfold hP
  rw [PB.has_or hx hy, Bool.or_eq_true]
  constructor
  · rintro ⟨h, a | a⟩
    · exact .inl ⟨h, a⟩
    · exact .inr ⟨h, a⟩
  · rintro (⟨h, a⟩ | ⟨h, a⟩)
    · exact ⟨h, .inl a⟩
    · exact ⟨h, .inr a⟩
theorem hP_one {k : Nat} (hk : k < 128) (i : Nat) : hP (PB.zero.with k) i ↔ i = k := by
  unfold hP
  constructor
  · rintro ⟨h, a⟩
    rw [PB.has_with PB.ok_zero k i hk h, PB.has_zero] at a
    simpa using (by simpa using a : k = i).symm
  · rintro rfl
    refine ⟨hk, ?_⟩
    rw [PB.has_with PB.ok_zero i i hk hk]
    simp

/-- What a place takes; which come behind it. -/
def tP (P : List Pl) (i : Nat) (c : Int) : Prop := ∃ p, P[i]? = some p ∧ G.inV p.x c = true
def bP (P : List Pl) (i j : Nat) : Prop := ∃ p, P[i]? = some p ∧ hP p.be j
theorem lnk_get (x y : PB) (P : List Pl) (i : Nat) : (lnk x y P)[i]? = P[i]?.map fun p => if x.has i = true then p.or y else p := by
  unfold lnk lnkP
  rw [List.getElem?_mapIdx]
  cases h : P[i]? with
  | none => rfl
  | some p =>
    have hi : i < P.length := (List.getElem?_eq_some_iff.1 h).1
    simp [hi]
theorem lnk_not {x y : PB} {P : List Pl} {i : Nat} (h : x.has i = false) : (lnk x y P)[i]? = P[i]? := by
  rw [lnk_get]
  cases P[i]? with
  | none => rfl
  | some p => simp [h]
theorem tP_lnk (x y : PB) (P : List Pl) (i : Nat) (c : Int) : tP (lnk x y P) i c ↔ tP P i c := by
  unfold tP
  rw [lnk_get]
  cases P[i]? with
  | none => simp
  | some p =>
    simp only [Option.map_some, Option.some.injEq]
    constructor
    · rintro ⟨q, rfl, h⟩
      refine ⟨p, rfl, ?_⟩
      split at h
      · exact h
      · exact h
    · rintro ⟨q, rfl, h⟩
      refine ⟨_, rfl, ?_⟩
      split
      · exact h
      · exact h
def OkP (P : List Pl) : Prop := ∀ p ∈ P, p.be.Ok
theorem OkP.at {P : List Pl} (h : OkP P) {i : Nat} {p : Pl} (hp : P[i]? = some p) : p.be.Ok := h p (List.mem_of_getElem? hp)
theorem OkP.lnk {P : List Pl} (h : OkP P) {x y : PB} (hy : y.Ok) : OkP (lnk x y P) := by
  intro p hp
  obtain ⟨i, hi⟩ := List.mem_iff_getElem?.1 hp
  rw [lnk_get] at hi
  cases hq : P[i]? with
  | none => rw [hq] at hi; simp at hi
  | some q =>
    rw [hq] at hi
    simp only [Option.map_some, Option.some.injEq] at hi
    subst hi
    split
    · exact PB.Ok.or (h.at hq) hy
    · exact h.at hq
theorem bP_lnk {x y : PB} {P : List Pl} (h : OkP P) (hy : y.Ok) (hl : P.length ≤ 128) (i j : Nat) : bP (lnk x y P) i j ↔ bP P i j ∨ (i < P.length ∧ hP x i ∧ hP y j) := by
  unfold bP
  rw [lnk_get]
  cases hq : P[i]? with
  | none =>
    have : ¬ i < P.length := by simpa using hq
    simp [this]
  | some p =>
    have hi : i < P.length := (List.getElem?_eq_some_iff.1 hq).1
    simp only [Option.map_some, Option.some.injEq]
    constructor
    · rintro ⟨q, rfl, g⟩
      split at g
      · rename_i hx
        rcases (hP_or (h.at hq) hy j).1 g with g | g
        · exact .inl ⟨p, rfl, g⟩
        · exact .inr ⟨hi, ⟨by omega, hx⟩, g⟩
      · exact .inl ⟨p, rfl, g⟩
    · rintro (⟨q, rfl, g⟩ | ⟨_, ⟨_, hx⟩, g⟩)
      · refine ⟨_, rfl, ?_⟩
        split
        · exact (hP_or (h.at hq) hy j).2 (.inl g)
        · exact g
      · refine ⟨_, rfl, ?_⟩
        rw [if_pos hx]
        exact (hP_or (h.at hq) hy j).2 (.inr g)

end Pr
end Go.Proofs.YtpgcidpghmoibaaGreatDoor
