/-
  THE WALK of the book's units: Units is asked twice, told right both times, and its four lists are kept: it answers true. Conditions: a book, and a bound on how many lists were kept.
-/
import Derived.Test.YtpgcidpghmoibaaKeepE
import Derived.Test.YtpgcidpghmoibaaKeepR
import Derived.Test.YtpgcidpghmoibaaTakenW
namespace Go.Proofs.Ytpgcidpghmoibaa
open Go.RowKit

/-- What the program's Units has answered, and what is known of it. -/
def UnitsOut (w w' : World) (s : ByteArray) (v1 v2 : Value) (e : Int) : Prop :=
  ∃ n xs ys, n ≤ 1000 ∧ w'.ownsRow 0 21 1 v1 n xs ∧ w'.ownsRow 0 3 1 v2 n ys ∧ (∀ k, v1.ownBlock = some k → w.heap.size ≤ k ∧ k < w'.heap.size) ∧ (∀ k, v2.ownBlock = some k → w.heap.size ≤ k ∧ k < w'.heap.size) ∧ Apart v1 v2 ∧ Below w.heap.size w w' ∧
    ∀ W, W.ownsRow 0 21 1 v1 n xs → W.ownsRow 0 3 1 v2 n ys → Calls Try.prog 7 #[v1, v2, .int .i64 e, .string s] W fun r W' => r = .returned (.bool true) ∧ Below W.heap.size W W'

theorem units_out (s : ByteArray) (w : World) (hs : s.size ≤ maxLen) :
    Calls Try.prog 4 #[.string s] w fun r w' => ∃ v1 v2 e, r = .returned (.tuple #[v1, v2, .int .i64 e]) ∧ UnitsOut w w' s v1 v2 e := by
  by_cases h : 1000 < s.size
  · refine (units_long s w h hs).mono ?_
    rintro r w' ⟨rfl, rfl⟩
    refine ⟨_, _, _, rfl, 0, [], [], by omega, World.ownsRow_nil _ _ _ _, World.ownsRow_nil _ _ _ _, fun k e => by simp [Value.ownBlock] at e, fun k e => by simp [Value.ownBlock] at e, Apart.nil _, Below.refl _ _, fun W _ _ => ?_⟩
    refine (taken_long s W h hs).mono ?_
    rintro r W' ⟨rfl, rfl⟩
    exact ⟨rfl, Below.refl _ _⟩
  · refine (units_short s w (by omega)).mono ?_
    rintro r w' ⟨v1, v2, rfl, h1, h2, hb⟩
    refine ⟨_, _, _, rfl, (U.units s).length, _, _, by have := U.units_length s; omega, own_zero h1, own_zero h2, fun k e => ?_, fun k e => ?_, ?_, hb, fun W o1 o2 => ?_⟩
    · have := h1.lt k e
      omega
    · have := h2.lt k e
      omega
    · intro k e1 e2
      rcases apart_of_types h1 h2 (by decide) with h3 | h3
      · rw [h3] at e2; cases e2
      · exact h3 (by rw [e1, e2])
    · by_cases hn : (U.units s).length = 0
      · obtain ⟨a1, c1, e1⟩ := own_len' o1
        obtain ⟨a2, c2, e2⟩ := own_len' o2
        rw [e1, e2, hn]
        exact taken_none s W (by omega) hn a1 a2 c1 c2
      · obtain ⟨g1, c1, e1, _⟩ := o1.form (by omega)
        obtain ⟨g2, c2, e2, _⟩ := o2.form (by omega)
        rw [e1] at o1
        rw [e2] at o2
        rw [e1, e2]
        exact taken_some s W (by omega) (by omega) 0 g1 g2 c1 c2 o1 o2

set_option maxRecDepth 100000 in
set_option maxHeartbeats 2000000 in
theorem bunits_any (s : ByteArray) (w : World) (b : Nat) (S : Nat → Prop) (c : Nat) (hB : Book w b S c) (hc : c ≤ 99999990) (hs : s.size ≤ maxLen) :
    Calls Try.prog 5 #[.pointer (some ⟨b, 0, none⟩), .string s] w fun e w' => e = .returned (.bool true) ∧ Book w' b (fun k => S k ∨ w.heap.size ≤ k) (c + 4) ∧ Kept (fun k => ¬ S k) w w' := by
  have hB0 : Book w b (fun k => S k ∧ k < w.heap.size) c := hB.mono (fun k hk h => ⟨h, hk⟩)
  have HB0 : Hid (Book w b (fun k => S k ∧ k < w.heap.size) c) := hB0
  clear hB hB0
  go_enter Try.func5, Try.ntmps5
  go_wp2_with fail
  refine (units_out s _ hs).mono ?_
  rintro r w1 ⟨v1, v2, e1, rfl, n1, x1, y1, hn1, o1, o2, q1, q2, ap1, hb1, tk1⟩
  have HT1 : Hid _ := tk1
  clear tk1
  go_wp2_with fail
  refine (units_out s _ hs).mono ?_
  rintro r w2 ⟨v3, v4, e2, rfl, n2, x2, y2, hn2, o3, o4, q3, q4, ap2, hb2, tk2⟩
  have HT2 : Hid _ := tk2
  clear tk2
  have o1 := own_belowAll o1 hb2
  have o2 := own_belowAll o2 hb2
  have B2 : Book w2 b (fun k => S k ∧ k < w.heap.size) c := (HB0.out.below hb1).below hb2
  have s1 := hb1.size
  have s2 := hb2.size
  go_wp2_with fail
  refine (HT1.out w2 o1 o2).mono ?_
  rintro r w3 ⟨rfl, hb3⟩
  go_wp2_with fail
  refine (HT2.out w3 (own_belowAll o3 hb3) (own_belowAll o4 hb3)).mono ?_
  rintro r w4 ⟨rfl, hb4⟩
  have B4 : Book w4 b (fun k => S k ∧ k < w.heap.size) c := (B2.below hb3).below hb4
  have o1 := own_belowAll (own_belowAll o1 hb3) hb4
  have o2 := own_belowAll (own_belowAll o2 hb3) hb4
  have o3 := own_belowAll (own_belowAll o3 hb3) hb4
  have o4 := own_belowAll (own_belowAll o4 hb3) hb4
  have s3 := hb3.size
  have s4 := hb4.size
  clear HT1 HT2 HB0 B2
  go_wp2_with fail
  refine (keepRunes_any w4 b _ c n1 v1 x1 B4 (by omega) o1 (by omega) (fun k e h => by have := q1 k e; omega)).mono ?_
  rintro r w5 ⟨rfl, B5, K5⟩
  have s5 := K5.size
  have o2 := own_kept o2 K5 (fun k e => ⟨fun h => by have := q2 k e; omega, fun h => ap1 k h e⟩)
  have o3 := own_kept o3 K5 (fun k e => ⟨fun h => by have := q3 k e; omega, fun h => by have := q3 k e; have := q1 k h; omega⟩)
  have o4 := own_kept o4 K5 (fun k e => ⟨fun h => by have := q4 k e; omega, fun h => by have := q4 k e; have := q1 k h; omega⟩)
  go_wp2_with fail
  refine (keepInts_any w5 b _ (c + 1) n1 v2 y1 B5 (by omega) o2 (by omega) (fun k e h => by
    have := q2 k e
    rcases h with h | h | h
    · omega
    · exact ap1 k h e
    · omega)).mono ?_
  rintro r w6 ⟨rfl, B6, K6⟩
  have s6 := K6.size
  have o3 := own_kept o3 K6 (fun k e => ⟨fun h => by
    have := q3 k e
    rcases h with h | h | h
    · omega
    · have := q1 k h; omega
    · omega, fun h => by have := q3 k e; have := q2 k h; omega⟩)
  have o4 := own_kept o4 K6 (fun k e => ⟨fun h => by
    have := q4 k e
    rcases h with h | h | h
    · omega
    · have := q1 k h; omega
    · omega, fun h => by have := q4 k e; have := q2 k h; omega⟩)
  go_wp2_with fail
  refine (keepRunes_any w6 b _ (c + 2) n2 v3 x2 B6 (by omega) o3 (by omega) (fun k e h => by
    have := q3 k e
    rcases h with (h | h | h) | h | h
    · omega
    · have := q1 k h; omega
    · omega
    · have := q2 k h; omega
    · omega)).mono ?_
  rintro r w7 ⟨rfl, B7, K7⟩
  have s7 := K7.size
  have o4 := own_kept o4 K7 (fun k e => ⟨fun h => by
    have := q4 k e
    rcases h with (h | h | h) | h | h
    · omega
    · have := q1 k h; omega
    · omega
    · have := q2 k h; omega
    · omega, fun h => ap2 k h e⟩)
  go_wp2_with fail
  refine (keepInts_any w7 b _ (c + 3) n2 v4 y2 B7 (by omega) o4 (by omega) (fun k e h => by
    have := q4 k e
    rcases h with ((h | h | h) | h | h) | h | h
    · omega
    · have := q1 k h; omega
    · omega
    · have := q2 k h; omega
    · omega
    · exact ap2 k h e
    · omega)).mono ?_
  rintro r w8 ⟨rfl, B8, K8⟩
  go_wp2
  go_ret
  refine ⟨rfl, B8.mono (fun k _ h => ?_), ?_⟩
  · rcases h with (((h | h | h) | h | h) | h | h) | h | h
    · exact .inl h.1
    · have := q1 k h; exact .inr (by omega)
    · exact .inr (by omega)
    · have := q2 k h; exact .inr (by omega)
    · exact .inr (by omega)
    · have := q3 k h; exact .inr (by omega)
    · exact .inr (by omega)
    · have := q4 k h; exact .inr (by omega)
    · exact .inr (by omega)
  · have k14 : Kept (fun k => ¬ S k) w w4 := ⟨((hb4.os.trans hb3.os).trans hb2.os).trans hb1.os, ((hb4.tape.trans hb3.tape).trans hb2.tape).trans hb1.tape, ((hb4.output.trans hb3.output).trans hb2.output).trans hb1.output, by omega, fun k hk _ => (((hb4.block k (by omega)).trans (hb3.block k (by omega))).trans (hb2.block k (by omega))).trans (hb1.block k hk)⟩
    refine ⟨((((K8.os.trans K7.os).trans K6.os).trans K5.os)).trans k14.os, ((((K8.tape.trans K7.tape).trans K6.tape).trans K5.tape)).trans k14.tape, ((((K8.output.trans K7.output).trans K6.output).trans K5.output)).trans k14.output, by have := K8.size; omega, fun k hk hp => ?_⟩
    have nS : ¬ (S k ∧ k < w.heap.size) := fun h => hp h.1
    have n1' : v1.ownBlock ≠ some k := fun h => by have := q1 k h; omega
    have n2' : v2.ownBlock ≠ some k := fun h => by have := q2 k h; omega
    have n3' : v3.ownBlock ≠ some k := fun h => by have := q3 k h; omega
    have n4' : v4.ownBlock ≠ some k := fun h => by have := q4 k h; omega
    have m5 : ¬ ((S k ∧ k < w.heap.size) ∨ v1.ownBlock = some k ∨ w4.heap.size ≤ k) := by
      rintro (h | h | h)
      · exact nS h
      · exact n1' h
      · omega
    have m6 : ¬ (((S k ∧ k < w.heap.size) ∨ v1.ownBlock = some k ∨ w4.heap.size ≤ k) ∨ v2.ownBlock = some k ∨ w5.heap.size ≤ k) := by
      rintro (h | h | h)
      · exact m5 h
      · exact n2' h
      · omega
    have m7 : ¬ ((((S k ∧ k < w.heap.size) ∨ v1.ownBlock = some k ∨ w4.heap.size ≤ k) ∨ v2.ownBlock = some k ∨ w5.heap.size ≤ k) ∨ v3.ownBlock = some k ∨ w6.heap.size ≤ k) := by
      rintro (h | h | h)
      · exact m6 h
      · exact n3' h
      · omega
    exact ((((K8.block k (by omega) ⟨m7, n4'⟩).trans (K7.block k (by omega) ⟨m6, n3'⟩)).trans (K6.block k (by omega) ⟨m5, n2'⟩)).trans (K5.block k (by omega) ⟨nS, n1'⟩)).trans (k14.block k hk hp)

end Go.Proofs.Ytpgcidpghmoibaa
