/-
  THE PROGRAM's READER: the walks of numbered, escaped, escape, and of the library's ParseUint beneath them: what each answers and what becomes of the reader. Conditions: the source has at most 2000 bytes, the place lies in it; the library's tables lie in memory as the text lays them.
  THE PROGRAM's READER: the walks of escaped and escape: what each answers and what becomes of the reader. Conditions: the source has at most 2000 bytes, the place lies in it; the library's tables lie in memory as the text lays them.
  THE PROGRAM's READER: the walks of escape and char: what each answers and what becomes of the reader. Conditions: the source has at most 2000 bytes, the place lies in it; the library's tables lie in memory as the text lays them; the reader is no table.
  THE LIBRARY's ContainsRune at the two texts of barred chars: a rune is in them just if it is one of their bytes. Conditions: the number is a rune.
  THE PROGRAM's READER: the walk of char: the rune that comes and where it ends, or an error at its place. Conditions: the source has at most 2000 bytes, the place lies in it; the library's tables lie in memory as the text lays them.
  THE PROGRAM's READER with its trees and its names: what stands while it reads, and what is left where something was read. Nothing of the program is run here. Conditions stand at each fact.
-/
import Derived.Lib.QuietBelow
import Derived.Test.YtnclmcngdcncdaaGreatDoorJ07
import Derived.Lib.Strings
import Derived.Lib.RuneCountTail
import Derived.Maps.Own
import Derived.Maps.OwnOps
import Derived.Maps.OwnSet
import Derived.Test.YtnclmcngdcncdaaGreatDoorJ04
namespace Go.Proofs.YtnclmcngdcncdaaGreatDoor
namespace Pr
open Go.RowKit
open Rf (Kept)

/-- The library's tables, as the walk reads them. -/
structure Tabs (w : World) : Prop where
  utf : Lib.Utf8Tabs 1 2 w
  syn : ∃ te pe, w.cell? ⟨3, 0, none⟩ = some (.iface te pe)
theorem cell_lt {w : World} {a : Addr} {v : Value} (hc : w.cell? a = some v) : a.block < w.heap.size := by
  rcases Nat.lt_or_ge a.block w.heap.size with h' | h'
  · exact h'
  · simp [World.cell?, Array.getElem?_eq_none h'] at hc
theorem cell_same {w w' : World} {a : Addr} (h : w'.heap[a.block]? = w.heap[a.block]?) : w'.cell? a = w.cell? a := by simp [World.cell?, h]
theorem Tabs.kept {w w' : World} {p : Nat → Prop} (h : Tabs w) (hk : Kept p w w') (h1 : p 1) (h2 : p 2) (h3 : p 3) : Tabs w' := by
  have key : ∀ {a : Addr} {v : Value}, p a.block → w.cell? a = some v → w'.cell? a = some v := fun {a v} hp hc => (cell_same (hk.block _ (cell_lt hc) hp)).trans hc
  obtain ⟨te, pe, hs⟩ := h.syn
  exact ⟨⟨fun c hc => key h1 (h.utf.1 c hc), fun i hi => ⟨key h2 (h.utf.2 i hi).1, key h2 (h.utf.2 i hi).2⟩⟩, te, pe, key h3 hs⟩
theorem Tabs.below {w w' : World} (h : Tabs w) (hb : Below w.heap.size w w') : Tabs w' := h.kept (p := fun _ => True) (Kept.of_below hb) trivial trivial trivial
theorem Tabs.lt {w : World} (h : Tabs w) : 1 < w.heap.size ∧ 2 < w.heap.size ∧ 3 < w.heap.size := by
  obtain ⟨te, pe, hs⟩ := h.syn
  exact ⟨cell_lt (h.utf.1 0 (by omega)), cell_lt (h.utf.2 0 (by omega)).1, cell_lt hs⟩

set_option maxRecDepth 100000 in
set_option maxHeartbeats 1000000 in
theorem pub_any (t : ByteArray) (ht : t.size = 4) (w : World) (hT : Tabs w) :
    Calls Tryz.prog 156 #[.string t, .int .i64 16, .int .i64 16] w fun e w' => (match hexp 0 t.data.toList with | some v => e = .returned (.tuple #[.int .u64 (v : Int), .nilIface]) | none => ∃ N, e = .returned (.tuple #[.int .u64 0, .iface 228 (.pointer (some ⟨N, 0, none⟩))])) ∧ Below w.heap.size w w' := by
  have hN := pu_any t ht w
  cases hx : hexp 0 t.data.toList with
  | some v =>
    rw [hx] at hN
    clear hx
    go_enter Tryz.func156, Tryz.ntmps156
    go_wp2_with (go_at_call 158; refine hN.mono ?_; rintro e w1 ⟨rfl, hb⟩; unfold puV)
    go_ret2
    exact ⟨rfl, hb⟩
  | none =>
    rw [hx] at hN
    clear hx
    go_enter Tryz.func156, Tryz.ntmps156
    go_wp2_with (first
      | (go_at_call 158; refine hN.mono ?_; rintro e w1 ⟨rfl, hb⟩; unfold puV; obtain ⟨te, pe, hs⟩ := (hT.below hb).syn; have hN2 := Tryz.strconv_toError_syntax { data := #[80, 97, 114, 115, 101, 85, 105, 110, 116] } t 16 16 _ w1 (by omega) hs (.inr ⟨te, pe, rfl⟩))
      | (go_at_call 159; refine hN2.mono ?_; rintro e w2 ⟨N, rfl, hN3, hN4, hb2⟩))
    go_ret2
    exact ⟨⟨N, rfl⟩, hb.trans (hb2.mono hb.size)⟩

theorem tail4 (s : ByteArray) (j : Nat) (h : j + 4 ≤ s.size) : (s.extract j (j + 4)).data.toList = [s[j]'(by omega), s[j + 1]'(by omega), s[j + 2]'(by omega), s[j + 3]'(by omega)] := by
  have hl : s.data.toList.length = s.size := by simp [← ByteArray.size_data]
  have e : (s.extract j (j + 4)).data.toList = (s.data.toList.drop j).take 4 := by
    simp only [ByteArray.data_extract, Array.toList_extract, List.extract_eq_take_drop]
    rw [show j + 4 - j = 4 by omega]
  rw [e, List.drop_eq_getElem_cons (by omega), List.drop_eq_getElem_cons (by omega), List.drop_eq_getElem_cons (by omega), List.drop_eq_getElem_cons (by omega)]
  rfl
theorem hexp_four (s : ByteArray) (j : Nat) (h : j + 4 ≤ s.size) : hexp 0 (s.extract j (j + 4)).data.toList = if G.hexs s j = true then some (G.hexv s j) else none := by
  rw [tail4 s j h]
  simp only [hexp, U.at_get, G.hexs, G.hexv]
  have d0 := G.dig_le (U.at' s j)
  by_cases h0 : G.dig (U.at' s j) < 16
  · by_cases h1 : G.dig (U.at' s (j + 1)) < 16
    · by_cases h2 : G.dig (U.at' s (j + 2)) < 16
      · by_cases h3 : G.dig (U.at' s (j + 3)) < 16
        · simp only [h0, h1, h2, h3, if_true, decide_true, Bool.and_self, Option.some.injEq]
          omega
        · simp [h0, h1, h2, h3]
      · simp [h0, h1, h2]
    · simp [h0, h1]
  · simp [h0]

/-- What stands behind a backslash and u. -/
def numV (s : ByteArray) (i : Nat) : Nat × Nat :=
  if i + 6 ≤ s.size ∧ G.hexs s (i + 2) = true ∧ (G.hexv s (i + 2) < 55296 ∨ 57344 ≤ G.hexv s (i + 2)) then (G.hexv s (i + 2), 5) else (0, 0)

theorem extract_size (s : ByteArray) (i : Nat) (_h : i ≤ s.size) : (s.extract i s.size).size = s.size - i := by simp [ByteArray.size_extract]

set_option maxRecDepth 100000 in
set_option maxHeartbeats 1000000 in
theorem numbered_any (s : ByteArray) (i : Nat) (w : World) (_hs : s.size ≤ 2000) (hi : i + 1 ≤ s.size) (hT : Tabs w) :
    Calls Tryz.prog 148 #[.string (s.extract (i + 1) s.size)] w fun e w' => e = .returned (.tuple #[.int .i32 ((numV s i).1 : Int), .int .i64 ((numV s i).2 : Int)]) ∧ Below w.heap.size w w' := by
  have hsz := extract_size s (i + 1) hi
  have hx : (s.extract (i + 1) s.size).extract 1 5 = s.extract (i + 2) (min (i + 6) s.size) := by
    rw [ByteArray.extract_extract]
  obtain ⟨rest, hrest⟩ : ∃ r, r = s.extract (i + 1) s.size := ⟨_, rfl⟩
  rw [← hrest] at hsz hx ⊢
  clear hrest
  by_cases h5 : rest.size < 5
  · have E : Hid (numV s i = (0, 0)) := by
      show numV s i = _
      rw [numV, if_neg (by omega)]
    have h5' : (rest.size : Int) < 5 := by omega
    go_enter Tryz.func148, Tryz.ntmps148
    go_wp2
    go_ret2
    rw [E.out]
    exact ⟨rfl, Below.refl _ _⟩
  · have h5' : ¬ (rest.size : Int) < 5 := by omega
    have h5'' : (5 : Int) ≤ (rest.size : Int) := by omega
    rw [show min (i + 6) s.size = i + 2 + 4 by omega] at hx
    have hN := pub_any (s.extract (i + 2) (i + 2 + 4)) (by rw [ByteArray.size_extract]; omega) w hT
    rw [hexp_four s (i + 2) (by omega)] at hN
    by_cases hh : G.hexs s (i + 2) = true
    · rw [if_pos hh] at hN
      change Calls _ _ _ _ (fun e w' => e = .returned (.tuple #[.int .u64 (G.hexv s (i + 2) : Int), .nilIface]) ∧ _) at hN
      have hle := G.hexv_le s (i + 2) hh
      have hval : Lib.validRune (G.hexv s (i + 2) : Int) = decide (G.hexv s (i + 2) < 55296 ∨ 57344 ≤ G.hexv s (i + 2)) := by
        unfold Lib.validRune
        rw [Bool.eq_iff_iff]
        simp
        omega
      have hw : IntKind.i32.wrap (G.hexv s (i + 2) : Int) = (G.hexv s (i + 2) : Int) := by
        simp [IntKind.wrap, IntKind.bits, IntKind.signed]
        omega
      by_cases hv : G.hexv s (i + 2) < 55296 ∨ 57344 ≤ G.hexv s (i + 2)
      · have E : Hid (numV s i = (G.hexv s (i + 2), 5)) := by
          show numV s i = _
          rw [numV, if_pos ⟨by omega, hh, hv⟩]
        rw [decide_eq_true hv] at hval
        clear hv hh
        have n1 : (G.hexv s (i + 2) : Int) ≤ 65535 := by omega
        have n0 : 0 ≤ (G.hexv s (i + 2) : Int) := by omega
        clear hle
        obtain ⟨n, hn⟩ : ∃ n : Int, n = (G.hexv s (i + 2) : Int) := ⟨_, rfl⟩
        rw [← hn] at hN hval hw n1 n0
        have HN : Hid (n = (G.hexv s (i + 2) : Int)) := hn
        clear hn
        go_enter Tryz.func148, Tryz.ntmps148
        go_wp2_with (first
          | (go_at_call 156; refine hN.mono ?_; rintro e w1 ⟨rfl, hb⟩)
          | (go_at_call 75; refine (Tryz.utf8_ValidRune _ _).mono ?_; rw [hval]; rintro e w2 ⟨rfl, rfl⟩))
        go_ret2
        rw [E.out, ← HN.out]
        exact ⟨rfl, hb⟩
      · have E : Hid (numV s i = (0, 0)) := by
          show numV s i = _
          rw [numV, if_neg (fun h => hv h.2.2)]
        rw [decide_eq_false hv] at hval
        clear hv hh
        have n1 : (G.hexv s (i + 2) : Int) ≤ 65535 := by omega
        have n0 : 0 ≤ (G.hexv s (i + 2) : Int) := by omega
        clear hle
        obtain ⟨n, hn⟩ : ∃ n : Int, n = (G.hexv s (i + 2) : Int) := ⟨_, rfl⟩
        rw [← hn] at hN hval hw n1 n0
        have HN : Hid (n = (G.hexv s (i + 2) : Int)) := hn
        clear hn
        go_enter Tryz.func148, Tryz.ntmps148
        go_wp2_with (first
          | (go_at_call 156; refine hN.mono ?_; rintro e w1 ⟨rfl, hb⟩)
          | (go_at_call 75; refine (Tryz.utf8_ValidRune _ _).mono ?_; rw [hval]; rintro e w2 ⟨rfl, rfl⟩))
        go_ret2
        rw [E.out]
        exact ⟨rfl, hb⟩
    · rw [if_neg hh] at hN
      have E : Hid (numV s i = (0, 0)) := by
        show numV s i = _
        rw [numV, if_neg (fun h => hh h.2.1)]
      go_enter Tryz.func148, Tryz.ntmps148
      go_wp2_with (first
        | (go_at_call 156; refine hN.mono ?_; rintro e w1 ⟨⟨N, rfl⟩, hb⟩)
        | (go_at_call 75; refine (Tryz.utf8_ValidRune _ _).mono ?_; rintro e w2 ⟨rfl, rfl⟩))
      go_ret2
      rw [E.out]
      exact ⟨rfl, hb⟩

end Pr
end Go.Proofs.YtnclmcngdcncdaaGreatDoor

namespace Go.Proofs.YtnclmcngdcncdaaGreatDoor
namespace Pr
open Go.RowKit
open Rf (Kept)

/-- What escaped answers of what stands behind a backslash at i. -/
def escV (s : ByteArray) (i : Nat) : Nat × Nat := match G.esc s i with
  | some (x, j) => (x, j - (i + 1))
  | none => (0, 0)

theorem esc_self {s : ByteArray} {i : Nat} {x : Nat} (h : G.pk s (i + 1) = (x : Int)) (hx : G.self (x : Int) = true) : escV s i = (x, 1) := by
  have e : G.esc s i = some (x, i + 2) := by
    rw [G.esc, if_pos (by rw [h]; exact hx), h]
    rfl
  rw [escV, e]
  show (x, i + 2 - (i + 1)) = _
  congr 1
  omega
theorem esc_n {s : ByteArray} {i : Nat} (h : G.pk s (i + 1) = 110) : escV s i = (10, 1) := by
  have e : G.esc s i = some (10, i + 2) := by
    rw [G.esc, if_neg (by rw [h]; decide), if_pos h]
  rw [escV, e]
  show (10, i + 2 - (i + 1)) = _
  congr 1
  omega
theorem esc_t {s : ByteArray} {i : Nat} (h : G.pk s (i + 1) = 116) : escV s i = (9, 1) := by
  have e : G.esc s i = some (9, i + 2) := by
    rw [G.esc, if_neg (by rw [h]; decide), if_neg (by omega), if_pos h]
  rw [escV, e]
  show (9, i + 2 - (i + 1)) = _
  congr 1
  omega
theorem esc_u {s : ByteArray} {i : Nat} (h : G.pk s (i + 1) = 117) : escV s i = numV s i := by
  unfold escV numV
  rw [G.esc, if_neg (by rw [h]; decide), if_neg (by omega), if_neg (by omega)]
  by_cases hc : i + 6 ≤ s.size ∧ G.hexs s (i + 2) = true ∧ (G.hexv s (i + 2) < 55296 ∨ 57344 ≤ G.hexv s (i + 2))
  · rw [if_pos ⟨h, hc⟩, if_pos hc]
    show (_, i + 6 - (i + 1)) = _
    congr 1
    omega
  · rw [if_neg (fun h => hc h.2), if_neg hc]
theorem esc_no {s : ByteArray} {i : Nat} (h : G.self (G.pk s (i + 1)) = false) (h1 : G.pk s (i + 1) ≠ 110) (h2 : G.pk s (i + 1) ≠ 116) (h3 : G.pk s (i + 1) ≠ 117) : escV s i = (0, 0) := by
  have e : G.esc s i = none := by
    rw [G.esc, if_neg (by rw [h]; decide), if_neg h1, if_neg h2, if_neg (fun h => h3 h.1)]
  rw [escV, e]

set_option maxRecDepth 100000 in
set_option maxHeartbeats 1000000 in
theorem escaped_any (s : ByteArray) (i : Nat) (w : World) (hs : s.size ≤ 2000) (hi : i + 1 ≤ s.size) (hT : Tabs w) :
    Calls Tryz.prog 135 #[.string (s.extract (i + 1) s.size)] w fun e w' => e = .returned (.tuple #[.int .i32 ((escV s i).1 : Int), .int .i64 ((escV s i).2 : Int)]) ∧ Below w.heap.size w w' := by
  have hsz := extract_size s (i + 1) hi
  have hN := numbered_any s i w hs hi hT
  by_cases h0 : i + 1 < s.size
  · have hg : ∀ h, ((s.extract (i + 1) s.size)[0]'h).toNat = U.at' s (i + 1) := by
      intro h
      rw [ByteArray.getElem_extract, U.at_get]
    have hpk : G.pk s (i + 1) = (U.at' s (i + 1) : Int) := G.pk_lt h0
    obtain ⟨rest, hrest, hgr⟩ : ∃ r, r = s.extract (i + 1) s.size ∧ ∀ h : 0 < r.size, (r[0]'h).toNat = U.at' s (i + 1) := ⟨_, rfl, hg⟩
    rw [← hrest] at hsz hN ⊢
    clear hrest hg
    have hl : 0 < rest.size := by omega
    have hl' : (0 : Int) < (rest.size : Int) := by omega
    have hemp : rest.toList.isEmpty = false := by
      rw [← decide_eq_emptyBytes]
      exact decide_eq_false (fun h => by rw [h] at hl; cases hl)
    have hb := U.at_lt s (i + 1)
    have hg2 := hgr hl
    clear hgr
    rcases (by
      by_cases a1 : U.at' s (i + 1) = 39 ∨ U.at' s (i + 1) = 92 ∨ U.at' s (i + 1) = 91 ∨ U.at' s (i + 1) = 93 ∨ U.at' s (i + 1) = 45 ∨ U.at' s (i + 1) = 94
      · exact .inl a1
      · exact .inr a1 : (U.at' s (i + 1) = 39 ∨ U.at' s (i + 1) = 92 ∨ U.at' s (i + 1) = 91 ∨ U.at' s (i + 1) = 93 ∨ U.at' s (i + 1) = 45 ∨ U.at' s (i + 1) = 94) ∨ ¬ (U.at' s (i + 1) = 39 ∨ U.at' s (i + 1) = 92 ∨ U.at' s (i + 1) = 91 ∨ U.at' s (i + 1) = 93 ∨ U.at' s (i + 1) = 45 ∨ U.at' s (i + 1) = 94)) with hx | hx
    · clear hN
      rcases hx with hx | hx | hx | hx | hx | hx
      all_goals
        have E : Hid (escV s i = (U.at' s (i + 1), 1)) := esc_self hpk (by rw [hx]; rfl)
        have hg3 : (rest[0]'hl).toNat = U.at' s (i + 1) := hg2
        rw [hx] at hg2
        go_enter Tryz.func135, Tryz.ntmps135
        go_wp2
        go_ret2
        rw [E.out, hx]
        exact ⟨rfl, Below.refl _ _⟩
    · have hself : G.self (G.pk s (i + 1)) = false := by rw [hpk]; simp [G.self]; omega
      by_cases h110 : U.at' s (i + 1) = 110
      · have E : Hid (escV s i = (10, 1)) := esc_n (by rw [hpk, h110]; rfl)
        rw [h110] at hg2
        clear hN
        go_enter Tryz.func135, Tryz.ntmps135
        go_wp2
        go_ret2
        rw [E.out]
        exact ⟨rfl, Below.refl _ _⟩
      · by_cases h116 : U.at' s (i + 1) = 116
        · have E : Hid (escV s i = (9, 1)) := esc_t (by rw [hpk, h116]; rfl)
          rw [h116] at hg2
          clear hN
          go_enter Tryz.func135, Tryz.ntmps135
          go_wp2
          go_ret2
          rw [E.out]
          exact ⟨rfl, Below.refl _ _⟩
        · by_cases h117 : U.at' s (i + 1) = 117
          · have E : Hid (escV s i = numV s i) := esc_u (by rw [hpk, h117]; rfl)
            rw [h117] at hg2
            go_enter Tryz.func135, Tryz.ntmps135
            go_wp2_with (go_at_call 148; refine hN.mono ?_; rintro e w1 ⟨rfl, hb1⟩)
            go_ret2
            rw [E.out]
            exact ⟨rfl, hb1⟩
          · have E : Hid (escV s i = (0, 0)) := esc_no hself (by rw [hpk]; omega) (by rw [hpk]; omega) (by rw [hpk]; omega)
            clear hN hself hpk
            generalize U.at' s (i + 1) = v at *
            have q1 : ¬ (rest[0]'hl).toNat = 39 := by omega
            have q2 : ¬ (rest[0]'hl).toNat = 92 := by omega
            have q3 : ¬ (rest[0]'hl).toNat = 91 := by omega
            have q4 : ¬ (rest[0]'hl).toNat = 93 := by omega
            have q5 : ¬ (rest[0]'hl).toNat = 45 := by omega
            have q6 : ¬ (rest[0]'hl).toNat = 94 := by omega
            have q7 : ¬ (rest[0]'hl).toNat = 110 := by omega
            have q8 : ¬ (rest[0]'hl).toNat = 116 := by omega
            have q9 : ¬ (rest[0]'hl).toNat = 117 := by omega
            clear hx h110 h116 h117 hg2
            go_enter Tryz.func135, Tryz.ntmps135
            go_wp2
            go_ret2
            rw [E.out]
            exact ⟨rfl, Below.refl _ _⟩
  · have E : Hid (escV s i = (0, 0)) := by
      have e : G.pk s (i + 1) = -1 := G.pk_ge h0
      exact esc_no (by rw [e]; rfl) (by omega) (by omega) (by omega)
    obtain ⟨rest, hrest⟩ : ∃ r, r = s.extract (i + 1) s.size := ⟨_, rfl⟩
    rw [← hrest] at hsz ⊢
    clear hrest hN
    have hemp : rest.toList.isEmpty = true := by
      rw [← decide_eq_emptyBytes]
      exact decide_eq_true (ByteArray.size_eq_zero_iff.1 (by omega))
    go_enter Tryz.func135, Tryz.ntmps135
    go_wp2
    go_ret2
    rw [E.out]
    exact ⟨rfl, Below.refl _ _⟩

end Pr
end Go.Proofs.YtnclmcngdcncdaaGreatDoor

namespace Go.Proofs.YtnclmcngdcncdaaGreatDoor
namespace Pr
open Go.RowKit
open Rf (Kept)

theorem esc_gt {s : ByteArray} {i x j : Nat} (h : G.esc s i = some (x, j)) : i + 2 ≤ j := by
  unfold G.esc at h
  split at h
  · simp at h; omega
  · split at h
    · simp at h; omega
    · split at h
      · simp at h; omega
      · split at h
        · simp at h; omega
        · cases h

/-- Nothing that was there has turned but block b. -/
abbrev Gr (b : Nat) (w w' : World) : Prop := Kept (fun k => k ≠ b) w w'
theorem Gr.below {b : Nat} {w w' : World} (h : Below w.heap.size w w') : Gr b w w' := Kept.of_below h
theorem Gr.set {b : Nat} {w w1 : World} (h : Gr b w w1) (o : Nat) (v : Value) : Gr b w (w1.setCell ⟨b, o, none⟩ v) := Kept.setCell h (q := ⟨b, o, none⟩) (fun hn => hn rfl) v
/-- A block that is no table. -/
def Own (b : Nat) : Prop := b ≠ 1 ∧ b ≠ 2 ∧ b ≠ 3
theorem Tabs.gr {b : Nat} {w w' : World} (h : Tabs w) (hg : Gr b w w') (hb : Own b) : Tabs w' := h.kept hg (Ne.symm hb.1) (Ne.symm hb.2.1) (Ne.symm hb.2.2)
theorem RB.below {w w' : World} {b : Nat} {s : ByteArray} {c : C} {m vR : Value} (h : RB w b s c m vR) (hb : Below w.heap.size w w') : RB w' b s c m vR := (hb.block b h.lt).trans h

/-- What a char's reading leaves: the rune and where it ends, or an error at its place. -/
def CharPost (w : World) (b : Nat) (s : ByteArray) (c : C) (m vR : Value) (o : Option (Nat × Nat)) (e : Ending) (w' : World) : Prop :=
  Gr b w w' ∧ match o with
    | some (x, j) => e = .returned (.tuple #[.int .i32 (x : Int), .bool true]) ∧ RB w' b s { c with i := j } m vR
    | none => e = .returned (.tuple #[.int .i32 0, .bool false]) ∧ RB w' b s { c with p := c.i, e := 2 } m vR

set_option maxRecDepth 100000 in
set_option maxHeartbeats 1000000 in
theorem escape_any (w : World) (b : Nat) (s : ByteArray) (c : C) (m vR : Value) (hR : RB w b s c m vR) (hs : s.size ≤ 2000) (hi : c.i < s.size) (hT : Tabs w) :
    Calls Tryz.prog 128 #[.pointer (some ⟨b, 0, none⟩)] w fun e w' => CharPost w b s c m vR (G.esc s c.i) e w' := by
  obtain ⟨c0, c1, c2, c3, c4, c5, c6, fr⟩ := hR.reads
  have r0 : ∀ d os, (Sort.grow (redrawn w d) os).cell? ⟨b, 0, none⟩ = some (.string s) := fun d os => cell_regrown c0 d os
  have r1 : ∀ d os, (Sort.grow (redrawn w d) os).cell? ⟨b, 1, none⟩ = some (.int .i64 (c.i : Int)) := fun d os => cell_regrown c1 d os
  have h0 : (0 : Int) ≤ (c.i : Int) + 1 := by omega
  have h1 : (c.i : Int) + 1 ≤ (s.size : Int) := by omega
  have hwr : IntKind.i64.wrap ((c.i : Int) + 1) = (c.i : Int) + 1 := by
    simp [IntKind.wrap, IntKind.bits, IntKind.signed]
    omega
  have hN : ∀ d os, Calls Tryz.prog 135 #[.string (s.extract (c.i + 1) s.size)] (Sort.grow (redrawn w d) os) fun e w'' => e = .returned (.tuple #[.int .i32 ((escV s c.i).1 : Int), .int .i64 ((escV s c.i).2 : Int)]) ∧ ∃ p : Regrown, w'' = Sort.grow (redrawn w p.d) p.os :=
    fun d os => Calls.regrown_of (escaped_any s c.i _ hs hi (hT.below (below_regrown w d os)))
  cases he : G.esc s c.i with
  | none =>
    have e0 : escV s c.i = (0, 0) := by rw [escV, he]
    rw [e0] at hN
    clear he e0
    go_enter Tryz.func128, Tryz.ntmps128
    go_wp2
    refine wp_region_quiet_below (by kernel_rfl) (by kernel_rfl) ?_
    repeat (first | go_big_quiet_step (exact hN _ _) | quiet_step (exact hN _ _))
    refine wpQuiet_nil ?_
    intro _ hw'
    obtain ⟨⟨dq, osq⟩, hw''⟩ := hw'
    subst hw''
    have hbel := below_regrown w dq osq
    have hR1 := hR.below hbel
    have HB : Hid _ := hbel
    clear hbel r0 hN
    go_wp2_with (go_at_call 84; refine (fail_any _ b s c m vR c.i 2 hR1).mono ?_; rintro e w2 ⟨rfl, hR2, hE2⟩)
    go_ret2
    exact ⟨(Gr.below HB.out).trans hE2.kept, rfl, hR2⟩
  | some q =>
    obtain ⟨x, j⟩ := q
    have hj := esc_gt he
    have hbd := G.esc_bd he
    have e0 : escV s c.i = (x, j - (c.i + 1)) := by rw [escV, he]
    rw [e0] at hN
    clear he e0
    obtain ⟨k, hk⟩ : ∃ k : Nat, j = c.i + 1 + k := ⟨j - (c.i + 1), by omega⟩
    have hk1 : j - (c.i + 1) = k := by omega
    have hk0 : 0 < k := by omega
    have hk2 : k ≤ 2000 := by omega
    simp only [hk1] at hN
    have HK : Hid (j = c.i + 1 + k) := hk
    clear hk1 hk hbd hj
    have hki : (0 : Int) < (k : Int) := by omega
    go_enter Tryz.func128, Tryz.ntmps128
    go_wp2
    refine wp_region_quiet_below (by kernel_rfl) (by kernel_rfl) ?_
    repeat (first | go_big_quiet_step (exact hN _ _) | quiet_step (exact hN _ _))
    refine wpQuiet_nil ?_
    intro _ hw'
    obtain ⟨⟨dq, osq⟩, hw''⟩ := hw'
    subst hw''
    have hbel := below_regrown w dq osq
    have hR1 := hR.below hbel
    obtain ⟨d0, d1, d2, d3, d4, d5, d6, dr⟩ := hR1.reads
    have HB : Hid _ := hbel
    clear hbel r0 hN
    go_wp2
    go_ret2
    have e : (c.i : Int) + (1 + (k : Int)) = ((j : Nat) : Int) := by rw [HK.out]; omega
    rw [e]
    exact ⟨(Gr.below HB.out).set _ _, rfl, hR1.setI j⟩

end Pr
end Go.Proofs.YtnclmcngdcncdaaGreatDoor

namespace Go.Proofs.YtnclmcngdcncdaaGreatDoor
namespace Pr
open Go.RowKit
open Rf (Kept)

theorem valid_of (x : Nat) (hx : x ≤ 1114111) (hv : x < 55296 ∨ 57344 ≤ x) : Utf8.valid (x : Int) = true := by
  unfold Utf8.valid
  simp
  omega
theorem ofNat_ge (n : Nat) (h : n < 64) : 128 ≤ (UInt8.ofNat (128 + n)).toNat := by
  rw [UInt8.toNat_ofNat']
  omega
theorem enc_two (x : Nat) (h : 128 ≤ x) (h2 : x < 2048) : ∃ r : ByteArray, Utf8.encode (x : Int) = r ∧ r.size = 2 ∧ ∀ hr : 1 < r.size, 128 ≤ (r[1]'hr).toNat := by
  refine ⟨⟨#[UInt8.ofNat (0xC0 + x / 64), UInt8.ofNat (0x80 + x % 64)]⟩, ?_, rfl, fun _ => ofNat_ge (x % 64) (by omega)⟩
  unfold Utf8.encode
  simp only [valid_of x (by omega) (by omega), if_true, Int.toNat_natCast]
  rw [if_neg (by omega), if_pos (by omega)]
theorem enc_more (x : Nat) (h : 2048 ≤ x) (hx : x ≤ 1114111) (hv : x < 55296 ∨ 57344 ≤ x) : ∃ r : ByteArray, Utf8.encode (x : Int) = r ∧ 3 ≤ r.size ∧ r.size ≤ 4 := by
  refine ⟨_, rfl, ?_⟩
  unfold Utf8.encode
  simp only [valid_of x hx hv, if_true, Int.toNat_natCast]
  rw [if_neg (by omega), if_neg (by omega)]
  split
  · exact ⟨Nat.le_refl 3, Nat.le_succ 3⟩
  · exact ⟨Nat.le_succ 3, Nat.le_refl 4⟩

/-- The two texts. -/
def Barred (t : ByteArray) : Prop := t = ⟨#[39]⟩ ∨ t = ⟨#[93, 45]⟩

set_option maxRecDepth 100000 in
set_option maxHeartbeats 2000000 in
theorem indexr_big (t : ByteArray) (ht : Barred t) (x : Nat) (h : 128 ≤ x) (hx : x ≤ 1114111) (hv : x < 55296 ∨ 57344 ≤ x) (hn : x ≠ 65533) (w : World) :
    Calls Tryz.prog 137 #[.string t, .int .i32 (x : Int)] w fun e w' => e = .returned (.int .i64 (-1)) ∧ ∃ n, w' = w.drewN n := by
  have hval : Lib.validRune (x : Int) = true := by
    unfold Lib.validRune
    simp
    omega
  have hts : t.size ≤ 2 := by rcases ht with rfl | rfl <;> decide
  have n1 : ¬ (x : Int) < 128 := by omega
  have n2 : ¬ (x : Int) = 65533 := by omega
  have hE1 := enc_two x h
  have hE2 := enc_more x
  obtain ⟨y, hy⟩ : ∃ y : Int, y = (x : Int) := ⟨_, rfl⟩
  rw [← hy] at hval n1 n2 ⊢
  have y0 : 0 ≤ y := by omega
  rw [← hy] at hE1 hE2
  by_cases h2 : x < 2048
  · have hE := hE1 h2
    clear hE1 hE2 hv hx hn hy
    obtain ⟨rs, hrs, s2, hb⟩ := hE
    have hb1 := hb (by omega)
    have hne : ¬ (rs[1]'(by omega)).toNat = 45 := by omega
    have hne2 : ¬ (45 : Nat) = (rs[1]'(by omega)).toNat := by omega
    have hlt := UInt8.toNat_lt (rs[1]'(by omega))
    clear hb
    have hcv : ∀ w, Sem.run Tryz.prog (convert 21 9 (Value.int .i32 y)) w = .ok (.string rs) w := by
      intro w
      rw [← hrs]
      rfl
    clear hrs
    rcases ht with rfl | rfl
    · go_enter Tryz.func137, Tryz.ntmps137
      go_wp2_with (go_at_call 75; refine (Tryz.utf8_ValidRune _ _).mono ?_; rw [hval]; rintro e w2 ⟨rfl, rfl⟩)
      go_step3
      go_wp2
      go_loopw [9] (fun v wr => v = .int .i64 1 ∧ wr = w2) (fun _ _ => 0)
      case atStart => exact ⟨rfl, rfl⟩
      case round =>
        obtain ⟨rfl, rfl⟩ := hrel
        go_wp2
        try rw [Exit.noGoto_ret]
        go_ret
        exact ⟨rfl, 0, rfl⟩
    · have hix := Tryz.strings_IndexByte ByteArray.empty ((rs[1]'(by omega)).toNat : Int)
      have hix2 : ∀ w, Calls Tryz.prog 80 #[.string ByteArray.empty, .int .u8 ((rs[1]'(by omega)).toNat : Int)] w fun e w' => e = .returned (.int .i64 (-1)) ∧ w' = w := by
        intro w
        exact hix w
      clear hix
      have hx1 : (1 : Int) < (rs.size : Int) := by omega
      have hw2 : IntKind.i64.wrap 2 = 2 := by decide
      have hbb : ((((⟨#[93, 45]⟩ : ByteArray)[1]'(by decide)).toNat : Int) != ((rs[1]'(by omega)).toNat : Int)) = true := by
        have e : ((⟨#[93, 45]⟩ : ByteArray)[1]'(by decide)).toNat = 45 := rfl
        rw [e]
        simp
        omega
      go_enter Tryz.func137, Tryz.ntmps137
      go_wp2_with (go_at_call 75; refine (Tryz.utf8_ValidRune _ _).mono ?_; rw [hval]; rintro e w2 ⟨rfl, rfl⟩)
      go_step3
      go_wp2
      go_loopw [9] (fun v wr => v = .int .i64 1 ∧ wr = w2) (fun _ _ => 0)
      case atStart => exact ⟨rfl, rfl⟩
      case round =>
        obtain ⟨rfl, rfl⟩ := hrel
        go_wp2
        go_step3
        go_wp2
        go_quiet (fail)
        go_wp2
        generalize hwd : wr.drewN nq = wd
        have HWD : Hid (wr.drewN nq = wd) := hwd
        clear hwd
        refine wp_region_quiet_lit (by kernel_rfl) (by kernel_rfl) ?_
        repeat (first | go_big_quiet_step ((go_at_call 80; refine Calls.quiet_of_same (hix2 _))) | quiet_step ((go_at_call 80; refine Calls.quiet_of_same (hix2 _))))
        refine wpQuiet_nil ?_
        intro _ hw'
        obtain ⟨n3, hw''⟩ := hw'
        subst hw''
        go_wp2
        simp +zetaDelta only [Exit.noGoto_ret, Exit.inBlock, Exit.then]
        go_ret
        exact ⟨rfl, nq + n3, by rw [← HWD.out]; exact drewN_drewN _ _ _⟩
  · have hE := hE2 (by omega) hx hv
    clear hE1 hE2 hv hx hn hy
    obtain ⟨rs, hrs, s2, s3⟩ := hE
    have hcv : ∀ w, Sem.run Tryz.prog (convert 21 9 (Value.int .i32 y)) w = .ok (.string rs) w := by
      intro w
      rw [← hrs]
      rfl
    clear hrs
    have hge : ¬ (rs.size : Int) - 1 < 2 := by omega
    have hge1 : ¬ (rs.size : Int) - 1 < 1 := by omega
    rcases ht with rfl | rfl
    all_goals
      go_enter Tryz.func137, Tryz.ntmps137
      go_wp2_with (go_at_call 75; refine (Tryz.utf8_ValidRune _ _).mono ?_; rw [hval]; rintro e w2 ⟨rfl, rfl⟩)
      go_step3
      go_wp2
      go_loopw [9] (fun v wr => v = .int .i64 ((rs.size : Int) - 1) ∧ wr = w2) (fun _ _ => 0)
      case atStart => exact ⟨rfl, rfl⟩
      case round =>
        obtain ⟨rfl, rfl⟩ := hrel
        go_wp2
        try rw [Exit.noGoto_ret]
        go_ret
        exact ⟨rfl, 0, rfl⟩

set_option maxRecDepth 100000 in
set_option maxHeartbeats 2000000 in
theorem indexr_err (t : ByteArray) (ht : Barred t) (w : World) :
    Calls Tryz.prog 137 #[.string t, .int .i32 65533] w fun e w' => e = .returned (.int .i64 (-1)) ∧ Below w.heap.size w w' := by
  have hts : ∀ p, p < t.size → (Utf8.decode t p).1 ≠ 65533 ∧ p + (Utf8.decode t p).2 ≤ t.size ∧ 0 < (Utf8.decode t p).2 := by
    rcases ht with rfl | rfl
    · intro p hp
      have : p = 0 := by simp [ByteArray.size] at hp; exact hp
      subst this
      decide
    · intro p hp
      have : p = 0 ∨ p = 1 := by simp [ByteArray.size] at hp; omega
      rcases this with rfl | rfl <;> decide
  clear ht
  go_enter Tryz.func137, Tryz.ntmps137
  go_wp2
  go_loopw [5] (fun _ wr => ∃ pos : Nat, wr.heap[w.heap.size]? = some (.stringIter t pos) ∧ Below w.heap.size w wr ∧ pos ≤ t.size) (fun _ wr => t.size - wr.iterPos w.heap.size)
  case atStart => exact ⟨0, World.iter_heap w t 0, (Below.refl _ _).alloc (Nat.le_refl _) _, Nat.zero_le _⟩
  case round =>
    obtain ⟨pos, hit, hbw, hle⟩ := hrel
    have hpos0 := iterPos_of hit
    by_cases hp : pos < t.size
    · have hnx : ∀ ty, (Instr.next (.pointer (some ⟨w.heap.size, 0, none⟩)) true ty).run Tryz.prog wr = _ := fun ty => Lib.run_next_any_at wr w.heap.size t pos ty hit hp
      obtain ⟨q1, q2, q3⟩ := hts pos hp
      have hit2 := Lib.iterAt_heap wr w.heap.size t pos (pos + (Utf8.decode t pos).2) hit
      have hbw2 := Lib.below_iterAt hbw (k := w.heap.size) (Nat.le_refl _) t (pos + (Utf8.decode t pos).2)
      obtain ⟨W1, hW1⟩ : ∃ W1, W1 = wr.iterAt w.heap.size t (pos + (Utf8.decode t pos).2) := ⟨_, rfl⟩
      rw [← hW1] at hnx hit2 hbw2
      clear hW1 hit hbw hts
      have hne : ¬ ((Utf8.decode t pos).1 : Int) = 65533 := by omega
      go_wp2
      go_roundw
      case rel => exact ⟨_, hit2, hbw2, q2⟩
      case measure =>
        rw [iterPos_of hit2, hpos0]
        omega
    · have hnx : ∀ ty, (Instr.next (.pointer (some ⟨w.heap.size, 0, none⟩)) true ty).run Tryz.prog wr = _ := fun ty => Lib.run_next_end_at wr w.heap.size t pos ty hit hp
      clear hts
      go_wp2
      go_ret
      exact ⟨rfl, hbw⟩

/-- Is it one of the barred bytes? -/
def barB (t : ByteArray) (x : Nat) : Bool := t.data.toList.any fun b => decide (b.toNat = x)
theorem indexByte_has : ∀ (l : List UInt8) (x : Nat), x < 256 → decide (0 ≤ Lib.indexByte l x.toUInt8) = l.any fun b => decide (b.toNat = x)
  | [], x, _ => rfl
  | b :: l, x, hx => by
    have ih := indexByte_has l x hx
    have hge := Lib.indexByte_ge l x.toUInt8
    have hb : b = x.toUInt8 ↔ b.toNat = x := by
      constructor
      · intro e
        rw [e]
        simp
        omega
      · intro e
        rw [← e]
        simp
    rw [Lib.indexByte, List.any_cons, ← ih]
    by_cases h : b.toNat = x
    · rw [if_pos (by simpa using hb.2 h)]
      simp [h]
    · rw [if_neg (by simpa using fun e => h (hb.1 e))]
      simp only [h, decide_false, Bool.false_or]
      by_cases h1 : Lib.indexByte l x.toUInt8 = -1
      · rw [if_pos (by simpa using h1), h1]
      · rw [if_neg (by simpa using h1)]
        rw [Bool.eq_iff_iff]
        simp only [decide_eq_true_eq]
        omega

set_option maxRecDepth 100000 in
set_option maxHeartbeats 1000000 in
theorem contains_any (t : ByteArray) (ht : Barred t) (x : Nat) (hx : x ≤ 1114111) (hv : x < 55296 ∨ 57344 ≤ x) (w : World) :
    Calls Tryz.prog 130 #[.string t, .int .i32 (x : Int)] w fun e w' => e = .returned (.bool (barB t x)) ∧ Below w.heap.size w w' := by
  by_cases h : x < 128
  · have := Tryz.strings_ContainsRune_ascii t (x : Int) w (by omega) (by omega)
    refine this.mono ?_
    rintro e w' ⟨rfl, rfl⟩
    refine ⟨?_, Below.refl _ _⟩
    rw [show (x : Int).toNat = x from rfl, indexByte_has t.data.toList x (by omega)]
    rfl
  · have hf : barB t x = false := by
      rcases ht with rfl | rfl
      · simp [barB]; omega
      · simp [barB]; omega
    rw [hf]
    have hN : Calls Tryz.prog 137 #[.string t, .int .i32 (x : Int)] w fun e w' => e = .returned (.int .i64 (-1)) ∧ Below w.heap.size w w' := by
      by_cases h2 : x = 65533
      · subst h2
        exact indexr_err t ht w
      · refine (indexr_big t ht x (by omega) hx hv h2 w).mono ?_
        rintro e w' ⟨rfl, n, rfl⟩
        exact ⟨rfl, (Kept.drewN (Kept.refl (fun _ => True) w) n).all⟩
    clear hf
    generalize (x : Int) = y at hN ⊢
    go_enter Tryz.func130, Tryz.ntmps130
    go_wp2_with (go_at_call 137; refine hN.mono ?_; rintro e w1 ⟨rfl, hb⟩)
    go_ret
    exact ⟨rfl, hb⟩

end Pr
end Go.Proofs.YtnclmcngdcncdaaGreatDoor

namespace Go.Proofs.YtnclmcngdcncdaaGreatDoor
namespace Pr
open Go.RowKit
open Rf (Kept)

theorem dec_cases (s : ByteArray) (i : Nat) (h : 128 ≤ U.at' s i) : (Utf8.decode s i = (65533, 1) ∧ G.well s i = false) ∨
    (2 ≤ (Utf8.decode s i).2 ∧ 128 ≤ (Utf8.decode s i).1 ∧ (Utf8.decode s i).1 ≤ 1114111 ∧ ((Utf8.decode s i).1 < 55296 ∨ 57344 ≤ (Utf8.decode s i).1) ∧ G.well s i = true) := by
  have hl := U.at_lt s i
  have hw : G.well s i = if U.at' s i < 192 ∨ 248 ≤ U.at' s i then false else decide ((Utf8.decode s i).2 ≠ 1) := by
    rw [G.well, if_neg (by omega)]
  rw [hw]
  by_cases hb : U.at' s i < 192 ∨ 248 ≤ U.at' s i
  · left
    exact ⟨U.decBad s i h hb, by rw [if_pos hb]⟩
  · rw [if_neg hb]
    by_cases h2 : U.at' s i < 224
    · rw [U.dec2 s i (by omega) h2]
      split
      · rename_i hc
        have := (U.tl_iff s (i + 1)).1 hc.1
        right
        simp only
        exact ⟨by omega, by omega, by omega, by omega, by simp⟩
      · left
        exact ⟨rfl, by decide⟩
    · by_cases h3 : U.at' s i < 240
      · rw [U.dec3 s i (by omega) h3]
        split
        · rename_i hc
          have := (U.tl_iff s (i + 1)).1 hc.1.1
          have := (U.tl_iff s (i + 2)).1 hc.1.2
          right
          simp only
          exact ⟨by omega, by omega, by omega, by omega, by simp⟩
        · left
          exact ⟨rfl, by decide⟩
      · rw [U.dec4 s i (by omega) (by omega)]
        split
        · rename_i hc
          right
          simp only
          exact ⟨by omega, by omega, by omega, by omega, by simp⟩
        · left
          exact ⟨rfl, by decide⟩

/-- The barred chars of a text. -/
def Bars (t : ByteArray) (a b : Int) : Prop := (t = ⟨#[39]⟩ ∧ a = 39 ∧ b = 39) ∨ (t = ⟨#[93, 45]⟩ ∧ a = 93 ∧ b = 45)
theorem Bars.bar {t : ByteArray} {a b : Int} (h : Bars t a b) : Barred t := by
  rcases h with ⟨h, _⟩ | ⟨h, _⟩
  · exact .inl h
  · exact .inr h
theorem Bars.bs {t : ByteArray} {a b : Int} (h : Bars t a b) : a ≠ 92 ∧ b ≠ 92 ∧ 0 < a ∧ 0 < b ∧ a < 128 ∧ b < 128 := by
  rcases h with ⟨_, rfl, rfl⟩ | ⟨_, rfl, rfl⟩ <;> decide
theorem Bars.has {t : ByteArray} {a b : Int} (h : Bars t a b) (x : Nat) : barB t x = decide ((x : Int) = a ∨ (x : Int) = b) := by
  rcases h with ⟨rfl, rfl, rfl⟩ | ⟨rfl, rfl, rfl⟩
  · rw [Bool.eq_iff_iff]
    simp [barB]
    omega
  · rw [Bool.eq_iff_iff]
    simp [barB]
    omega

set_option maxRecDepth 100000 in
set_option maxHeartbeats 1000000 in
theorem char_esc (w : World) (k : Nat) (s : ByteArray) (c : C) (m vR : Value) (t : ByteArray) (hR : RB w k s c m vR) (hs : s.size ≤ 2000) (hi : c.i ≤ s.size) (hT : Tabs w) (h92 : G.pk s c.i = 92) :
    Calls Tryz.prog 119 #[.pointer (some ⟨k, 0, none⟩), .string t] w fun e w' => CharPost w k s c m vR (G.esc s c.i) e w' := by
  have hpe := peek_any w k s c m vR hR hs hi
  have hlt := G.lt_of_pk (s := s) (i := c.i) (by omega)
  rw [(pkV_eq (by omega)).2 h92] at hpe
  have hN : ∀ n, _ := fun n => escape_any (w.drewN n) k s c m vR (hR.drewN n) hs hlt (hT.below ((Kept.drewN (Kept.refl (fun _ => True) w) n).all))
  clear h92 hlt
  cases he : G.esc s c.i with
  | none =>
    rw [he] at hN
    clear he
    go_enter Tryz.func119, Tryz.ntmps119
    go_wp2_with (first
      | (go_at_call 56; refine hpe.mono ?_; rintro e w1 ⟨rfl, n, rfl⟩)
      | (go_at_call 128; refine (hN n).mono ?_; rintro e w2 ⟨hg, rfl, hR2⟩))
    go_ret2
    exact ⟨(Kept.drewN (Kept.refl _ w) n).trans hg, rfl, hR2⟩
  | some q =>
    obtain ⟨x, j⟩ := q
    rw [he] at hN
    clear he
    go_enter Tryz.func119, Tryz.ntmps119
    go_wp2_with (first
      | (go_at_call 56; refine hpe.mono ?_; rintro e w1 ⟨rfl, n, rfl⟩)
      | (go_at_call 128; refine (hN n).mono ?_; rintro e w2 ⟨hg, rfl, hR2⟩))
    go_ret2
    exact ⟨(Kept.drewN (Kept.refl _ w) n).trans hg, rfl, hR2⟩

/-- What char makes of a rune that was decoded. -/
def decO (t : ByteArray) (i X K : Nat) : Option (Nat × Nat) := if X = 65533 ∧ K ≤ 1 then none else if barB t X = true then none else some (X, i + K)

set_option maxRecDepth 100000 in
set_option maxHeartbeats 1000000 in
theorem char_dec (w : World) (k : Nat) (s : ByteArray) (c : C) (m vR : Value) (t : ByteArray) (ht : Barred t) (X K : Nat) (hR : RB w k s c m vR) (hs : s.size ≤ 2000) (hi : c.i ≤ s.size) (hT : Tabs w) (h92 : ¬ G.pk s c.i = 92)
    (hD : Lib.decodeGo (s.extract c.i s.size) = (X, K)) (hX : X ≤ 1114111) (hv : X < 55296 ∨ 57344 ≤ X) (hK : c.i + K ≤ s.size) :
    Calls Tryz.prog 119 #[.pointer (some ⟨k, 0, none⟩), .string t] w fun e w' => CharPost w k s c m vR (decO t c.i X K) e w' := by
  have hpe := peek_any w k s c m vR hR hs hi
  have hne := pkV_ne (s := s) (i := c.i) (c := 92) (by omega) h92
  obtain ⟨c0, c1, c2, c3, c4, c5, c6, fr⟩ := hR.reads
  have h0 : (0 : Int) ≤ (c.i : Int) := by omega
  have h1 : (c.i : Int) ≤ (s.size : Int) := by omega
  clear h92
  generalize pkV s c.i = pv at hpe hne
  have hC : ∀ w, _ := fun w => contains_any t ht X hX hv w
  have hdc : ∀ w, Tabs w → _ := fun w hT => Tryz.utf8_DecodeRuneInString (s.extract c.i s.size) w hT.utf
  rw [hD] at hdc
  simp only at hdc
  obtain ⟨Y, hY⟩ : ∃ Y : Int, Y = (X : Int) := ⟨_, rfl⟩
  have HY : Hid (Y = (X : Int)) := hY
  simp only [← hY] at hC hdc
  have y0 : 0 ≤ Y := by omega
  have y1 : Y ≤ 1114111 := by omega
  by_cases hn : X = 65533 ∧ K ≤ 1
  · have hY5 : Y = 65533 := by omega
    have hK1 : (K : Int) ≤ 1 := by omega
    rw [show decO t c.i X K = none by rw [decO, if_pos hn]]
    clear hn hY hD HY hX hv hK
    go_enter Tryz.func119, Tryz.ntmps119
    go_wp2_with (go_at_call 56; refine hpe.mono ?_; rintro e w1 ⟨rfl, n, rfl⟩)
    have hRn := hR.drewN n
    have hTn : Tabs (w.drewN n) := hT.below ((Kept.drewN (Kept.refl (fun _ => True) w) n).all)
    have hKn : Gr k w (w.drewN n) := Kept.drewN (Kept.refl _ w) n
    have r0 : ∀ d os, (Sort.grow (redrawn (w.drewN n) d) os).cell? ⟨k, 0, none⟩ = some (.string s) := fun d os => cell_regrown c0 d os
    have r1 : ∀ d os, (Sort.grow (redrawn (w.drewN n) d) os).cell? ⟨k, 1, none⟩ = some (.int .i64 (c.i : Int)) := fun d os => cell_regrown c1 d os
    have hN : ∀ d os, _ :=
      fun d os => Calls.regrown_of (hdc _ (hTn.below (below_regrown (w.drewN n) d os)))
    clear hdc
    generalize w.drewN n = wn at *
    refine wp_region_quiet_below (by kernel_rfl) (by kernel_rfl) ?_
    repeat (first | go_big_quiet_step (exact hN _ _) | quiet_step (exact hN _ _))
    refine wpQuiet_nil ?_
    intro _ hw'
    obtain ⟨⟨dq, osq⟩, hw''⟩ := hw'
    subst hw''
    have hbel := below_regrown wn dq osq
    have hR1 := hRn.below hbel
    have HB : Hid _ := hbel
    clear hbel r0 hN
    go_wp2_with (go_at_call 84; refine (fail_any _ k s c m vR c.i 2 hR1).mono ?_; rintro e w2 ⟨rfl, hR2, hE2⟩)
    go_ret2
    exact ⟨(hKn.trans (Gr.below HB.out)).trans hE2.kept, rfl, hR2⟩
  · have hkl : K ≤ 2000 := by omega
    cases hb : barB t X with
    | true =>
      rw [hb] at hC
      rw [show decO t c.i X K = none by rw [decO, if_neg hn, if_pos hb]]
      rcases (by omega : (Y = 65533 ∧ 1 < K) ∨ ¬ Y = 65533) with ⟨rfl, hK1⟩ | hY5
      all_goals
        clear hn hY hD HY hX hv hb
        go_enter Tryz.func119, Tryz.ntmps119
        go_wp2_with (go_at_call 56; refine hpe.mono ?_; rintro e w1 ⟨rfl, n, rfl⟩)
        have hRn := hR.drewN n
        have hTn : Tabs (w.drewN n) := hT.below ((Kept.drewN (Kept.refl (fun _ => True) w) n).all)
        have hKn : Gr k w (w.drewN n) := Kept.drewN (Kept.refl _ w) n
        have r0 : ∀ d os, (Sort.grow (redrawn (w.drewN n) d) os).cell? ⟨k, 0, none⟩ = some (.string s) := fun d os => cell_regrown c0 d os
        have r1 : ∀ d os, (Sort.grow (redrawn (w.drewN n) d) os).cell? ⟨k, 1, none⟩ = some (.int .i64 (c.i : Int)) := fun d os => cell_regrown c1 d os
        have hN : ∀ d os, _ :=
          fun d os => Calls.regrown_of (hdc _ (hTn.below (below_regrown (w.drewN n) d os)))
        clear hdc
        generalize w.drewN n = wn at *
        refine wp_region_quiet_below (by kernel_rfl) (by kernel_rfl) ?_
        repeat (first | go_big_quiet_step (exact hN _ _) | quiet_step (exact hN _ _))
        refine wpQuiet_nil ?_
        intro _ hw'
        obtain ⟨⟨dq, osq⟩, hw''⟩ := hw'
        subst hw''
        have hbel := below_regrown wn dq osq
        have hR1 := hRn.below hbel
        have HB : Hid _ := hbel
        clear hbel r0 hN
        generalize Sort.grow (redrawn wn dq) osq = wg at *
        go_wp2_with (first
          | (go_at_call 84; refine (fail_any w3 k s c m vR c.i 2 hR3).mono ?_; rintro e w2 ⟨rfl, hR2, hE2⟩)
          | (go_at_call 130; refine (hC wg).mono ?_; rintro e w3 ⟨rfl, hb3⟩; have hR3 := hR1.below hb3; obtain ⟨d0, d1, d2, d3, d4, d5, d6, dr⟩ := hR3.reads))
        go_ret2
        exact ⟨((hKn.trans (Gr.below HB.out)).trans (Gr.below hb3)).trans hE2.kept, rfl, hR2⟩
    | false =>
      rw [hb] at hC
      rw [show decO t c.i X K = some (X, c.i + K) by rw [decO, if_neg hn, if_neg (by rw [hb]; decide)]]
      rcases (by omega : (Y = 65533 ∧ 1 < K) ∨ ¬ Y = 65533) with ⟨rfl, hK1⟩ | hY5
      all_goals
        clear hn hY hD hX hv hb
        go_enter Tryz.func119, Tryz.ntmps119
        go_wp2_with (go_at_call 56; refine hpe.mono ?_; rintro e w1 ⟨rfl, n, rfl⟩)
        have hRn := hR.drewN n
        have hTn : Tabs (w.drewN n) := hT.below ((Kept.drewN (Kept.refl (fun _ => True) w) n).all)
        have hKn : Gr k w (w.drewN n) := Kept.drewN (Kept.refl _ w) n
        have r0 : ∀ d os, (Sort.grow (redrawn (w.drewN n) d) os).cell? ⟨k, 0, none⟩ = some (.string s) := fun d os => cell_regrown c0 d os
        have r1 : ∀ d os, (Sort.grow (redrawn (w.drewN n) d) os).cell? ⟨k, 1, none⟩ = some (.int .i64 (c.i : Int)) := fun d os => cell_regrown c1 d os
        have hN : ∀ d os, _ :=
          fun d os => Calls.regrown_of (hdc _ (hTn.below (below_regrown (w.drewN n) d os)))
        clear hdc
        generalize w.drewN n = wn at *
        refine wp_region_quiet_below (by kernel_rfl) (by kernel_rfl) ?_
        repeat (first | go_big_quiet_step (exact hN _ _) | quiet_step (exact hN _ _))
        refine wpQuiet_nil ?_
        intro _ hw'
        obtain ⟨⟨dq, osq⟩, hw''⟩ := hw'
        subst hw''
        have hbel := below_regrown wn dq osq
        have hR1 := hRn.below hbel
        have HB : Hid _ := hbel
        clear hbel r0 hN
        generalize Sort.grow (redrawn wn dq) osq = wg at *
        go_wp2_with (go_at_call 130; refine (hC wg).mono ?_; rintro e w3 ⟨rfl, hb3⟩; have hR3 := hR1.below hb3; obtain ⟨d0, d1, d2, d3, d4, d5, d6, dr⟩ := hR3.reads)
        go_ret2
        refine ⟨Gr.set ((hKn.trans (Gr.below HB.out)).trans (Gr.below hb3)) _ _, ?_, hR3.add K⟩
        rw [← HY.out]
        rfl

theorem char_any (w : World) (k : Nat) (s : ByteArray) (c : C) (m vR : Value) (t : ByteArray) (a b : Int) (hab : Bars t a b) (hR : RB w k s c m vR) (hs : s.size ≤ 2000) (hi : c.i ≤ s.size) (hT : Tabs w) :
    Calls Tryz.prog 119 #[.pointer (some ⟨k, 0, none⟩), .string t] w fun e w' => CharPost w k s c m vR (G.chr s a b c.i) e w' := by
  have hbs := hab.bs
  by_cases h92 : G.pk s c.i = 92
  · have e : G.chr s a b c.i = G.esc s c.i := by
      rw [G.chr, if_neg (by omega), if_pos h92]
    rw [e]
    exact char_esc w k s c m vR t hR hs hi hT h92
  · by_cases hlt : c.i < s.size
    · have hpk := G.pk_lt hlt
      have hsz := extract_size s c.i hi
      have hD : Lib.decodeGo (s.extract c.i s.size) = Utf8.decode s c.i := by
        rw [Lib.decodeGo, if_neg (by omega), Lib.tail_decode]
        rfl
      have hwd := U.width s c.i hlt
      by_cases h8 : U.at' s c.i < 128
      · rw [U.dec1 s c.i h8] at hD
        have h := char_dec w k s c m vR t hab.bar _ _ hR hs hi hT h92 hD (by omega) (by omega) (by omega)
        have e : decO t c.i (U.at' s c.i) 1 = G.chr s a b c.i := by
          rw [decO, if_neg (by omega), hab.has, G.chr, hpk]
          by_cases hx : ((U.at' s c.i : Int) = a ∨ (U.at' s c.i : Int) = b)
          · rw [if_pos (by simpa using hx), if_pos (.inr hx)]
          · rw [if_neg (by simpa using hx), if_neg (by omega), if_neg (by rw [← hpk]; exact h92), if_pos (by rw [G.well, if_pos h8]), U.dec1 s c.i h8]
        rw [e] at h
        exact h
      · rcases dec_cases s c.i (by omega) with ⟨d1, d2⟩ | ⟨d1, d2, d3, d4, d5⟩
        · rw [d1] at hD
          have h := char_dec w k s c m vR t hab.bar _ _ hR hs hi hT h92 hD (by omega) (by omega) (by omega)
          have e : decO t c.i 65533 1 = G.chr s a b c.i := by
            rw [decO, if_pos ⟨rfl, Nat.le_refl _⟩, G.chr, if_neg (by omega), if_neg h92, if_neg (by rw [d2]; decide)]
          rw [e] at h
          exact h
        · have h := char_dec w k s c m vR t hab.bar (Utf8.decode s c.i).1 (Utf8.decode s c.i).2 hR hs hi hT h92 hD d3 d4 hwd.2
          have e : decO t c.i (Utf8.decode s c.i).1 (Utf8.decode s c.i).2 = G.chr s a b c.i := by
            rw [decO, if_neg (by omega), hab.has, if_neg (by simp; omega), G.chr, if_neg (by omega), if_neg h92, if_pos d5]
          rw [e] at h
          exact h
    · have hpk := G.pk_ge hlt
      have hD : Lib.decodeGo (s.extract c.i s.size) = (65533, 0) := by
        rw [Lib.decodeGo, if_pos (by rw [extract_size s c.i hi]; omega)]
      have h := char_dec w k s c m vR t hab.bar _ _ hR hs hi hT h92 hD (by omega) (by omega) (by omega)
      have e : decO t c.i 65533 0 = G.chr s a b c.i := by
        rw [decO, if_pos ⟨rfl, Nat.zero_le _⟩, G.chr, if_pos (.inl (by omega))]
      rw [e] at h
      exact h

end Pr
end Go.Proofs.YtnclmcngdcncdaaGreatDoor

namespace Go.Proofs.YtnclmcngdcncdaaGreatDoor
namespace Pr
open Go.RowKit Go.Maps
open Rf (Kept)
open G (PNode)

/-- An element of the map of names, as it is. -/
def heldR (v : Value) : Option (DataW Value × List MemPlace) := some (.held v, [])
def envV (E : List (ByteArray × Nat)) (B : List Nat) (nm : ByteArray) : Value := match G.lookup E nm with
  | some p => pv (bl B p)
  | none => .pointer none
/-- The map of names. -/
def EnvAt (w : World) (bm : Nat) (E : List (ByteArray × Nat)) (B : List Nat) : Prop :=
  ∃ D n, w.ownsMap Tryz.prog 9 heldR bm n D ∧ n ≤ E.length ∧ ∀ nm : ByteArray, nm.size ≤ maxLen → D.atKey (.string nm.data.toList) (.held (.pointer none)) = .held (envV E B nm)

theorem EnvAt.kept {w w' : World} {bm : Nat} {E : List (ByteArray × Nat)} {B : List Nat} (h : EnvAt w bm E B) (hk : w'.heap[bm]? = w.heap[bm]?) : EnvAt w' bm E B := by
  obtain ⟨D, n, ⟨es, clock, h1, h2⟩, h3⟩ := h
  exact ⟨D, n, ⟨es, clock, hk.trans h1, h2⟩, h3⟩
theorem EnvAt.lt {w : World} {bm : Nat} {E : List (ByteArray × Nat)} {B : List Nat} (h : EnvAt w bm E B) : bm < w.heap.size := by
  obtain ⟨D, n, h1, _⟩ := h
  exact h1.lt
theorem lookup_mem {E : List (ByteArray × Nat)} {nm : ByteArray} {p : Nat} (h : G.lookup E nm = some p) : ∃ x ∈ E, x.2 = p := by
  unfold G.lookup at h
  cases hf : E.find? fun x => decide (x.1 = nm) with
  | none => rw [hf] at h; cases h
  | some x =>
    rw [hf] at h
    simp only [Option.map_some, Option.some.injEq] at h
    exact ⟨x, List.mem_of_find?_eq_some hf, h⟩
theorem envV_app {E : List (ByteArray × Nat)} {B X : List Nat} (hE : ∀ x ∈ E, x.2 < B.length) (nm : ByteArray) : envV E (B ++ X) nm = envV E B nm := by
  unfold envV
  cases h : G.lookup E nm with
  | none => rfl
  | some p =>
    obtain ⟨x, hx, rfl⟩ := lookup_mem h
    simp only
    rw [bl_app (hE x hx)]
theorem EnvAt.app {w : World} {bm : Nat} {E : List (ByteArray × Nat)} {B X : List Nat} (h : EnvAt w bm E B) (hE : ∀ x ∈ E, x.2 < B.length) : EnvAt w bm E (B ++ X) := by
  obtain ⟨D, n, h1, h2, h3⟩ := h
  exact ⟨D, n, h1, h2, fun nm hn => by rw [envV_app hE]; exact h3 nm hn⟩

/-- A reader with its trees and its names. -/
structure PS (w : World) (b : Nat) (s : ByteArray) (c : C) (bm : Nat) (vR : Value) (I : Nat → Prop) (T : List PNode) (B : List Nat) (E : List (ByteArray × Nat)) : Prop where
  rb : RB w b s c (.map (some bm)) vR
  tr : Tree w I T B
  env : EnvAt w bm E B
  tab : Tabs w
  own : Own b
  nb : ¬ I b
  nm : ¬ I bm
  bb : bm ≠ b
  wf : G.WF T
  el : ∀ x ∈ E, x.2 < T.length
  ci : c.i ≤ s.size
  sz : s.size ≤ 2000

/-- The reader alone has turned, or memory was made. -/
theorem PS.step {w w' : World} {b : Nat} {s : ByteArray} {c c' : C} {bm : Nat} {vR : Value} {I : Nat → Prop} {T : List PNode} {B : List Nat} {E : List (ByteArray × Nat)} (h : PS w b s c bm vR I T B E) (hg : Gr b w w') (hr : RB w' b s c' (.map (some bm)) vR) (hi : c'.i ≤ s.size) : PS w' b s c' bm vR I T B E where
  rb := hr
  tr := h.tr.gr hg h.nb
  env := h.env.kept (hg.block bm h.env.lt h.bb)
  tab := h.tab.gr hg h.own
  own := h.own
  nb := h.nb
  nm := h.nm
  bb := h.bb
  wf := h.wf
  el := h.el
  ci := hi
  sz := h.sz
theorem PS.below {w w' : World} {b : Nat} {s : ByteArray} {c : C} {bm : Nat} {vR : Value} {I : Nat → Prop} {T : List PNode} {B : List Nat} {E : List (ByteArray × Nat)} (h : PS w b s c bm vR I T B E) (hb : Below w.heap.size w w') : PS w' b s c bm vR I T B E :=
  h.step (Gr.below hb) (h.rb.below hb) h.ci

/-- One node more, whose blocks are new. -/
theorem PS.add {w : World} {b : Nat} {s : ByteArray} {c : C} {bm : Nat} {vR : Value} {I I' : Nat → Prop} {T : List PNode} {B : List Nat} {E : List (ByteArray × Nat)} {y : PNode} {a : Nat} (h : PS w b s c bm vR I T B E) (hI : ∀ k, I k → I' k) (hlt : ∀ k, I' k → k < w.heap.size) (hnb : ¬ I' b) (hnm : ¬ I' bm) (hp : ∀ p ∈ y.parts, p < T.length) (hy : NodeAt w I' B a y) (hw : G.WF (T ++ [y])) : PS w b s c bm vR I' (T ++ [y]) (B ++ [a]) E where
  rb := h.rb
  tr := h.tr.snoc h.wf hI hlt hp hy
  env := h.env.app (fun x hx => by rw [h.tr.len]; exact h.el x hx)
  tab := h.tab
  own := h.own
  nb := hnb
  nm := hnm
  bb := h.bb
  wf := hw
  el x hx := by have := h.el x hx; simp; omega
  ci := h.ci
  sz := h.sz

/-- A leaf. -/
theorem PS.leaf {w0 w : World} {b : Nat} {s : ByteArray} {c : C} {bm : Nat} {vR : Value} {I : Nat → Prop} {T : List PNode} {B : List Nat} {E : List (ByteArray × Nat)} {rs : List (Nat × Nat)} {o : Bool} {vr : Value} {rs' : List (Nat × Nat)} {a : Nat}
    (h : PS w b s c bm vR I T B E) (hb0 : b < w0.heap.size) (hm0 : bm < w0.heap.size) (ha : w0.heap.size ≤ a) (hblk : w.heap[a]? = some (.cells (leafCells vr o) 108 (0, 0))) (ho : w.ownsRow w0.heap.size 154 2 vr rs'.length (rc rs')) (hok : SetOk rs' rs) (hbd : ∀ r ∈ rs, r.1 ≤ 1114111 ∧ r.2 ≤ 1114111) :
    ∃ I', PS w b s c bm vR I' (T ++ [G.mk T 115 rs o []]) (B ++ [a]) E ∧ Ext w0 I B I' (B ++ [a]) := by
  refine ⟨fun k => I k ∨ k = a ∨ vr.ownBlock = some k, h.add (fun k hk => .inl hk) ?_ ?_ ?_ (by simp [G.mk]) ?_ (h.wf.snoc 115 rs o [] (by simp) hbd (.inl ⟨rfl, rfl⟩)), ⟨fun k hk => .inl hk, ?_, [a], rfl⟩⟩
  · rintro k (hk | rfl | hk)
    · exact h.tr.lt k hk
    · exact lt_of_block hblk
    · exact (ho.lt k hk).2
  · rintro (hk | hk | hk)
    · exact h.nb hk
    · omega
    · have := (ho.lt b hk).1; omega
  · rintro (hk | hk | hk)
    · exact h.nm hk
    · omega
    · have := (ho.lt bm hk).1; omega
  · unfold NodeAt
    rw [if_neg (by simp [G.lone, G.mk]), if_pos (show (G.mk T 115 rs o []).kind = 115 from rfl)]
    exact ⟨.inr (.inl rfl), vr, rs', hblk, own_low ho (Nat.zero_le _), hok, fun k e => .inr (.inr e)⟩
  · rintro k (hk | rfl | hk)
    · exact .inl hk
    · exact .inr ha
    · exact .inr (ho.lt k hk).1

/-- A node with one part that repeats nothing: its part. -/
theorem PS.alone {w : World} {b : Nat} {s : ByteArray} {c : C} {bm : Nat} {vR : Value} {I : Nat → Prop} {T : List PNode} {B : List Nat} {E : List (ByteArray × Nat)} {k p : Nat} (h : PS w b s c bm vR I T B E) (hk : k = 113 ∨ k = 99) (hp : p < T.length) :
    PS w b s c bm vR I (T ++ [G.mk T k [] false [p]]) (B ++ [bl B p]) E := by
  refine h.add (fun _ h => h) h.tr.lt h.nb h.nm (by simpa [G.mk] using hp) ?_ (h.wf.snoc k [] false [p] (by simpa using hp) (by simp) (.inr (.inl ⟨hk, by simp⟩)))
  unfold NodeAt
  rw [if_pos (by rcases hk with rfl | rfl <;> simp [G.lone, G.mk])]
  rfl

theorem lone_iff {x : PNode} : G.lone x = true ↔ (x.kind = 113 ∨ x.kind = 99) ∧ x.parts.length = 1 := by
  unfold G.lone
  rw [Bool.and_eq_true, Bool.or_eq_true, decide_eq_true_iff, decide_eq_true_iff, decide_eq_true_iff]

/-- A node with its row of parts. -/
theorem PS.inner {w0 w : World} {b : Nat} {s : ByteArray} {c : C} {bm : Nat} {vR : Value} {I : Nat → Prop} {T : List PNode} {B : List Nat} {E : List (ByteArray × Nat)} {k : Nat} {ps : List Nat} {v : Value} {a : Nat}
    (h : PS w b s c bm vR I T B E) (hb0 : b < w0.heap.size) (hm0 : bm < w0.heap.size) (ha : w0.heap.size ≤ a) (hk : ((k = 113 ∨ k = 99) ∧ ps ≠ [] ∧ ps.length ≠ 1) ∨ ((k = 42 ∨ k = 43 ∨ k = 63) ∧ ps.length = 1)) (hp : ∀ p ∈ ps, p < T.length)
    (hblk : w.heap[a]? = some (.cells (innerCells (kindN k) v (min (G.sizeOf T ps) 101)) 108 (0, 0))) (ho : w.ownsRow w0.heap.size 102 1 v ps.length (ptrs B ps)) :
    ∃ I', PS w b s c bm vR I' (T ++ [G.mk T k [] false ps]) (B ++ [a]) E ∧ Ext w0 I B I' (B ++ [a]) := by
  have hk115 : k ≠ 115 := by omega
  refine ⟨fun j => I j ∨ j = a ∨ v.ownBlock = some j, h.add (fun k hk => .inl hk) ?_ ?_ ?_ (by simpa [G.mk] using hp) ?_ (h.wf.snoc k [] false ps hp (by simp) ?_), ⟨fun k hk => .inl hk, ?_, [a], rfl⟩⟩
  · rintro j (hj | rfl | hj)
    · exact h.tr.lt j hj
    · exact lt_of_block hblk
    · exact (ho.lt j hj).2
  · rintro (hj | hj | hj)
    · exact h.nb hj
    · omega
    · have := (ho.lt b hj).1; omega
  · rintro (hj | hj | hj)
    · exact h.nm hj
    · omega
    · have := (ho.lt bm hj).1; omega
  · unfold NodeAt
    have hl : ¬ G.lone (G.mk T k [] false ps) = true := by
      intro hl
      have hl2 := lone_iff.1 hl
      simp only [G.mk] at hl2
      rcases hk with ⟨_, _, h3⟩ | ⟨h3, _⟩
      · exact h3 hl2.2
      · omega
    rw [if_neg hl, if_neg (by simpa [G.mk] using hk115)]
    refine ⟨.inr (.inl rfl), v, ?_, own_low ho (Nat.zero_le _), fun j e => .inr (.inr e)⟩
    rw [hblk]
    simp [G.mk, hk115]
  · rcases hk with ⟨h1, h2, _⟩ | ⟨h1, h2⟩
    · exact .inr (.inl ⟨h1, h2⟩)
    · exact .inr (.inr ⟨h1, h2⟩)
  · rintro j (hj | rfl | hj)
    · exact .inl hj
    · exact .inr ha
    · exact .inr (ho.lt j hj).1

/-- What is left where something was read. -/
def RPost (w : World) (b : Nat) (s : ByteArray) (c : C) (bm : Nat) (vR : Value) (I : Nat → Prop) (B : List Nat) (E : List (ByteArray × Nat)) (r : G.Res) (e : Ending) (w' : World) : Prop :=
  Gr b w w' ∧ match r with
    | .ok n j T' => ∃ I' B', e = .returned (pv (bl B' n)) ∧ PS w' b s { c with i := G.skip s j } bm vR I' T' B' E ∧ Ext w I B I' B'
    | .err er p => e = .returned (.pointer none) ∧ ∃ i d, RB w' b s ⟨i, d, p, er⟩ (.map (some bm)) vR

end Pr
end Go.Proofs.YtnclmcngdcncdaaGreatDoor
