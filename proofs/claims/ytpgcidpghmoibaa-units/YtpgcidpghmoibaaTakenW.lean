/-
  THE WALK of taken (is Units told right?): it answers true of what the program's Units has answered. Conditions: the lists are the units' own.
-/
import Derived.Test.YtpgcidpghmoibaaRefW
import Derived.Deep.QuietTactic
import Derived.BigQuiet
namespace Go.Proofs.Ytpgcidpghmoibaa
open Go.RowKit

set_option maxHeartbeats 400000 in
theorem num_any (n : Int) (w : World) : Calls Try.prog 11 #[.int .i64 n] w fun e w' => e = .returned (.int .i64 n) ∧ w' = w := by
  go_enter Try.func11, Try.ntmps11
  go_wp2
  go_ret
  exact ⟨rfl, rfl⟩

set_option maxRecDepth 100000 in
set_option maxHeartbeats 400000 in
theorem taken_long (s : ByteArray) (w : World) (h : 1000 < s.size) (hs : s.size ≤ maxLen) :
    Calls Try.prog 7 #[.slice none 0 0, .slice none 0 0, .int .i64 1, .string s] w fun e w' => e = .returned (.bool true) ∧ w' = w := by
  go_enter Try.func7, Try.ntmps7
  go_wp2_with (first
    | (go_at_call 10; refine (runits_long s _ h hs).mono ?_; rintro e w' ⟨rfl, rfl⟩)
    | (go_at_call 11; refine (num_any _ _).mono ?_; rintro e w' ⟨rfl, rfl⟩))
  refine wp_loop_rounds 1 ?_
  rw [rounds_succ]
  go_wp2
  go_ret
  exact ⟨rfl, rfl⟩

/-- A slice that owns n elements is a slice of the length n. -/
theorem own_len {w : World} {b e size n : Nat} {v : Value} {xs : List Value} (h : w.ownsRow b e size v n xs) : ∃ a c, v = .slice a n c := by
  rcases h.2 with ⟨rfl, rfl⟩ | ⟨g, cap, _, rfl, _⟩
  · exact ⟨_, _, rfl⟩
  · exact ⟨_, _, rfl⟩

set_option maxRecDepth 100000 in
set_option maxHeartbeats 1000000 in
theorem taken_none (s : ByteArray) (w : World) (h : s.size ≤ 1000) (hn : (U.units s).length = 0) (a1 a2 : Option Addr) (c1 c2 : Nat) :
    Calls Try.prog 7 #[.slice a1 0 c1, .slice a2 0 c2, .int .i64 0, .string s] w fun e w' => e = .returned (.bool true) ∧ Below w.heap.size w w' := by
  go_enter Try.func7, Try.ntmps7
  go_wp2_with (first
    | (go_at_call 10; refine (runits_short s _ h).mono ?_; rintro e w1 ⟨v1, v2, rfl, ho1, ho2, hb⟩; rw [hn] at ho1 ho2; obtain ⟨b1, d1, rfl⟩ := own_len ho1; obtain ⟨b2, d2, rfl⟩ := own_len ho2)
    | (go_at_call 11; refine (num_any _ _).mono ?_; rintro e w' ⟨rfl, rfl⟩))
  refine wp_loop_rounds 1 ?_
  rw [rounds_succ]
  go_wp2
  go_ret
  exact ⟨rfl, hb⟩

/-- The cell of an owned row. -/
theorem own_cell {w : World} {b e n g cap : Nat} {xs : List Value} (h : w.ownsRow b e 1 (.slice (some ⟨g, 0, none⟩) n cap) n xs) {k : Nat} {u : Value} (hu : xs[k]? = some u) : w.cell? ⟨g, k, none⟩ = some u := by
  have := h.cells (g := g) rfl k u hu
  have hadd : (⟨g, 0, none⟩ : Addr).add k = ⟨g, k, none⟩ := by unfold Addr.add; split <;> simp_all
  rw [hadd] at this
  exact this

theorem own_below {w w' : World} {N b e size n g cap : Nat} {xs : List Value} (hb : Below N w w') (hg : g < N) (h : w.ownsRow b e size (.slice (some ⟨g, 0, none⟩) n cap) n xs) : w'.ownsRow b e size (.slice (some ⟨g, 0, none⟩) n cap) n xs := by
  obtain ⟨h1, h2⟩ := h
  refine ⟨h1, ?_⟩
  rcases h2 with ⟨h0, _⟩ | ⟨g', cap', cur, hv, h3, h4, h5⟩
  · cases h0
  · cases hv
    exact .inr ⟨g, cap, cur, rfl, h3, by rw [hb.block g hg]; exact h4, h5⟩

theorem cell_heap {w w' : World} (h : w'.heap = w.heap) {a : Addr} : w'.cell? a = w.cell? a := World.cell?_of_block (by rw [h])

set_option maxRecDepth 100000 in
set_option maxHeartbeats 1000000 in
theorem taken_some (s : ByteArray) (w : World) (h : s.size ≤ 1000) (hn : 0 < (U.units s).length) (B g1 g2 c1 c2 : Nat)
    (o1 : w.ownsRow B 21 1 (.slice (some ⟨g1, 0, none⟩) (U.units s).length c1) (U.units s).length (U.runes32 (U.units s)))
    (o2 : w.ownsRow B 3 1 (.slice (some ⟨g2, 0, none⟩) (U.units s).length c2) (U.units s).length (U.starts64 (U.units s))) :
    Calls Try.prog 7 #[.slice (some ⟨g1, 0, none⟩) (U.units s).length c1, .slice (some ⟨g2, 0, none⟩) (U.units s).length c2, .int .i64 0, .string s] w fun e w' => e = .returned (.bool true) ∧ Below w.heap.size w w' := by
  have hlen := U.units_length s
  have hbd := U.units_bound s
  generalize hL : U.units s = L at *
  have HL : Hid (U.units s = L) := hL
  have HB : Hid (∀ x ∈ L, x.1 ≤ 1114111 ∧ x.2 < s.size) := hbd
  clear hL hbd
  obtain ⟨n, hnn⟩ : ∃ n, L.length = n := ⟨_, rfl⟩
  rw [hnn] at o1 o2 hn hlen ⊢
  have HN : Hid (L.length = n) := hnn
  clear hnn
  have l1 := (o1.lt g1 rfl).2
  have l2 := (o2.lt g2 rfl).2
  go_enter Try.func7, Try.ntmps7
  go_wp2_with (first
    | (go_at_call 10; refine (runits_short s _ h).mono ?_; rintro e w1 ⟨v1, v2, rfl, ho1, ho2, hb⟩; rw [HL.out, HN.out] at ho1 ho2; obtain ⟨b1, d1, rfl, _⟩ := ho1.form hn; obtain ⟨b2, d2, rfl, _⟩ := ho2.form hn)
    | (go_at_call 11; refine (num_any _ _).mono ?_; rintro e w' ⟨rfl, rfl⟩))
  have q1 : w'.ownsRow B 21 1 (.slice (some ⟨g1, 0, none⟩) n c1) n (U.runes32 L) := own_below hb l1 o1
  have q2 : w'.ownsRow B 3 1 (.slice (some ⟨g2, 0, none⟩) n c2) n (U.starts64 L) := own_below hb l2 o2
  clear o1 o2
  go_loopw [12, 13] (fun b i wr => ∃ k : Nat, k ≤ n ∧ b = .bool true ∧ i = .int .i64 k ∧ wr.heap = w'.heap ∧ Below w.heap.size w wr) (fun _ i _ => n - (intOf i).toNat)
  case atStart => exact ⟨0, Nat.zero_le _, rfl, rfl, rfl, hb⟩
  case round =>
    obtain ⟨k, hk, rfl, rfl, hh, hbr⟩ := hrel
    by_cases hlt : k < n
    · have hkL : k < L.length := by rw [HN.out]; exact hlt
      obtain ⟨x, hx⟩ : ∃ x, L[k]? = some x := ⟨L[k], by simp [hkL]⟩
      have hbx := HB.out x (List.mem_of_getElem? hx)
      have e1 : wr.cell? ⟨g1, k, none⟩ = some (.int .i32 (x.1 : Int)) := by rw [cell_heap hh]; exact own_cell q1 (by simp [U.runes32, hx])
      have e2 : wr.cell? ⟨g2, k, none⟩ = some (.int .i64 (x.2 : Int)) := by rw [cell_heap hh]; exact own_cell q2 (by simp [U.starts64, hx])
      have e3 : wr.cell? ⟨b1, k, none⟩ = some (.int .i64 (x.1 : Int)) := by rw [cell_heap hh]; exact own_cell ho1 (by simp [U.runes64, hx])
      have e4 : wr.cell? ⟨b2, k, none⟩ = some (.int .i64 (x.2 : Int)) := by rw [cell_heap hh]; exact own_cell ho2 (by simp [U.starts64, hx])
      have hki : (k : Int) < (n : Int) := by omega
      have hk0 : (0 : Int) ≤ (k : Int) := by omega
      have HH : Hid (wr.heap = w'.heap) := hh
      have hx1 := hbx.1
      have gd : ((x.1 : Int) == (x.1 : Int)) = true := by simp
      clear hh hx hbx q1 q2 ho1 ho2 hb
      go_wp2
      go_quiet (fail)
      go_wp2
      go_roundw
      case rel => exact ⟨k + 1, by omega, by simp, by go_num, HH.out, below_drewN hbr _⟩
      case measure => simp [intOf]; omega
    · obtain rfl : k = n := by omega
      clear hh q1 q2 ho1 ho2 hb
      go_wp2
      go_ret
      exact ⟨rfl, hbr⟩

end Go.Proofs.Ytpgcidpghmoibaa
