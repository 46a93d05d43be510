/-
  THE PROGRAM's READER: the walks of numbered, escaped, escape, and of the library's ParseUint beneath them: what each answers and what becomes of the reader. Conditions: the source has at most 2000 bytes, the place lies in it; the library's tables lie in memory as the text lays them.
  THE PROGRAM's READER: the walks of escaped and escape: what each answers and what becomes of the reader. Conditions: the source has at most 2000 bytes, the place lies in it; the library's tables lie in memory as the text lays them.
  THE PROGRAM's READER: the walks of escape and char: what each answers and what becomes of the reader. Conditions: the source has at most 2000 bytes, the place lies in it; the library's tables lie in memory as the text lays them; the reader is no table.
-/
import Derived.Test.YtpgcidpghmoibaaGreatDoorK06
import Derived.Lib.QuietBelow
namespace Go.Proofs.YtpgcidpghmoibaaGreatDoor
namespace Pr
open Go.RowKit
open Rf (Kept)
structure Tabs (w : World) : Prop where
  utf : Lib.Utf8Tabs 1 2 w
  syn : ∃ te pe, w.cell? ⟨3, 0, none⟩ = some (.iface te pe)
theorem cell_lt {w : World} {a : Addr} {v : Value} (hc : w.cell? a = some v) : a.block < w.heap.size := by
  rcases Nat.lt_or_ge a.block w.heap.size with h' | h'
  · exact h'
  · simp [World.cell?, Array.getElem?_eq_none h'] at hc
theorem cell_same {w w' : World} {a : Addr} (h : w'.heap[a.block]? = w.heap[a.block]?) : w'.cell? a = w.cell? a := by simp [World.cell?, h]
theorem Tabs.kept {w w' : World} {p : Nat → Prop} (h : Tabs w) (hk : Kept p w w') (h1 : p 1) (h2 : p 2) (h3 : p 3) : Tabs w' := by
  have key : ∀ {a : Addr} {v : Value}, p a.block → w.cell? a = some v → w'.cell? a = some v := fun {a v} hp hc => (cell_same (hk.block _ (cell_lt hc) hp)).trans hc
  obtain ⟨te, pe, hs⟩ := h.syn
  exact ⟨⟨fun c hc => key h1 (h.utf.1 c hc), fun i hi => ⟨key h2 (h.utf.2 i hi).1, key h2 (h.utf.2 i hi).2⟩⟩, te, pe, key h3 hs⟩
theorem Tabs.below {w w' : World} (h : Tabs w) (hb : Below w.heap.size w w') : Tabs w' := h.kept (p := fun _ => True) (Kept.of_below hb) trivial trivial trivial
theorem Tabs.lt {w : World} (h : Tabs w) : 1 < w.heap.size ∧ 2 < w.heap.size ∧ 3 < w.heap.size := by
  obtain ⟨te, pe, hs⟩ := h.syn
  exact ⟨cell_lt (h.utf.1 0 (by omega)), cell_lt (h.utf.2 0 (by omega)).1, cell_lt hs⟩
set_option maxRecDepth 100000 in
set_option maxHeartbeats 1000000 in
theorem pub_any (t : ByteArray) (ht : t.size = 4) (w : World) (hT : Tabs w) :
    Calls Tryz.prog 197 #[.string t, .int .i64 16, .int .i64 16] w fun e w' => (match hexp 0 t.data.toList with | some v => e = .returned (.tuple #[.int .u64 (v : Int), .nilIface]) | none => ∃ N, e = .returned (.tuple #[.int .u64 0, .iface 270 (.pointer (some ⟨N, 0, none⟩))])) ∧ Below w.heap.size w w' := by
  have hN := pu_any t ht w
  cases hx : hexp 0 t.data.toList with
  | some v =>
    rw [hx] at hN
    clear hx
    go_enter Tryz.func197, Tryz.ntmps197
    go_wp2_with (go_at_call 199; refine hN.mono ?_; rintro e w1 ⟨rfl, hb⟩; unfold puV)
    go_ret2
    exact ⟨rfl, hb⟩
  | none =>
    rw [hx] at hN
    clear hx
    go_enter Tryz.func197, Tryz.ntmps197
    go_wp2_with (first
      | (go_at_call 199; refine hN.mono ?_; rintro e w1 ⟨rfl, hb⟩; unfold puV; obtain ⟨te, pe, hs⟩ := (hT.below hb).syn; have hN2 := Tryz.strconv_toError_syntax { data := #[80, 97, 114, 115, 101, 85, 105, 110, 116] } t 16 16 _ w1 (by omega) hs (.inr ⟨te, pe, rfl⟩))
      | (go_at_call 200; refine hN2.mono ?_; rintro e w2 ⟨N, rfl, hN3, hN4, hb2⟩))
    go_ret2
    exact ⟨⟨N, rfl⟩, hb.trans (hb2.mono hb.size)⟩
theorem tail4 (s : ByteArray) (j : Nat) (h : j + 4 ≤ s.size) : (s.extract j (j + 4)).data.toList = [s[j]'(by omega), s[j + 1]'(by omega), s[j + 2]'(by omega), s[j + 3]'(by omega)] := by
  have hl : s.data.toList.length = s.size := by simp [← ByteArray.size_data]
  have e : (s.extract j (j + 4)).data.toList = (s.data.toList.drop j).take 4 := by
    simp only [ByteArray.data_extract, Array.toList_extract, List.extract_eq_take_drop]
    rw [show j + 4 - j = 4 by omega]
  rw [e, List.drop_eq_getElem_cons (by omega), List.drop_eq_getElem_cons (by omega), List.drop_eq_getElem_cons (by omega), List.drop_eq_getElem_cons (by omega)]
  rfl
theorem hexp_four (s : ByteArray) (j : Nat) (h : j + 4 ≤ s.size) : hexp 0 (s.extract j (j + 4)).data.toList = if G.hexs s j = true then some (G.hexv s j) else none := by
  rw [tail4 s j h]
  simp only [hexp, U.at_get, G.hexs, G.hexv]
  have d0 := G.dig_le (U.at' s j)
  by_cases h0 : G.dig (U.at' s j) < 16
  · by_cases h1 : G.dig (U.at' s (j + 1)) < 16
    · by_cases h2 : G.dig (U.at' s (j + 2)) < 16
      · by_cases h3 : G.dig (U.at' s (j + 3)) < 16
        · simp only [h0, h1, h2, h3, if_true, decide_true, Bool.and_self, Option.some.injEq]
          omega
        · simp [h0, h1, h2, h3]
      · simp [h0, h1, h2]
    · simp [h0, h1]
  · simp [h0]
def numV (s : ByteArray) (i : Nat) : Nat × Nat :=
  if i + 6 ≤ s.size ∧ G.hexs s (i + 2) = true ∧ (G.hexv s (i + 2) < 55296 ∨ 57344 ≤ G.hexv s (i + 2)) then (G.hexv s (i + 2), 5) else (0, 0)
theorem extract_size (s : ByteArray) (i : Nat) (_h : i ≤ s.size) : (s.extract i s.size).size = s.size - i := by simp [ByteArray.size_extract]
set_option maxRecDepth 100000 in
set_option maxHeartbeats 1000000 in
theorem numbered_any (s : ByteArray) (i : Nat) (w : World) (_hs : s.size ≤ 2000) (hi : i + 1 ≤ s.size) (hT : Tabs w) :
    Calls Tryz.prog 189 #[.string (s.extract (i + 1) s.size)] w fun e w' => e = .returned (.tuple #[.int .i32 ((numV s i).1 : Int), .int .i64 ((numV s i).2 : Int)]) ∧ Below w.heap.size w w' := by
  have hsz := extract_size s (i + 1) hi
  have hx : (s.extract (i + 1) s.size).extract 1 5 = s.extract (i + 2) (min (i + 6) s.size) := by
    rw [ByteArray.extract_extract]
  obtain ⟨rest, hrest⟩ : ∃ r, r = s.extract (i + 1) s.size := ⟨_, rfl⟩
  rw [← hrest] at hsz hx ⊢
  clear hrest
  by_cases h5 : rest.size < 5
  · have E : Hid (numV s i = (0, 0)) := by
      show numV s i = _
      rw [numV, if_neg (by omega)]
    have h5' : (rest.size : Int) < 5 := by omega
    go_enter Tryz.func189, Tryz.ntmps189
    go_wp2
    go_ret2
    rw [E.out]
    exact ⟨rfl, Below.refl _ _⟩
  · have h5' : ¬ (rest.size : Int) < 5 := by omega
    have h5'' : (5 : Int) ≤ (rest.size : Int) := by omega
    rw [show min (i + 6) s.size = i + 2 + 4 by omega] at hx
    have hN := pub_any (s.extract (i + 2) (i + 2 + 4)) (by rw [ByteArray.size_extract]; omega) w hT
    rw [hexp_four s (i + 2) (by omega)] at hN
    by_cases hh : G.hexs s (i + 2) = true
    · rw [if_pos hh] at hN
      change Calls _ _ _ _ (fun e w' => e = .returned (.tuple #[.int .u64 (G.hexv s (i + 2) : Int), .nilIface]) ∧ _) at hN
      have hle := G.hexv_le s (i + 2) hh
      have hval : Lib.validRune (G.hexv s (i + 2) : Int) = decide (G.hexv s (i + 2) < 55296 ∨ 57344 ≤ G.hexv s (i + 2)) := by
        unfold Lib.validRune
        rw [Bool.eq_iff_iff]
        simp
        omega
      have hw : IntKind.i32.wrap (G.hexv s (i + 2) : Int) = (G.hexv s (i + 2) : Int) := by
        simp [IntKind.wrap, IntKind.bits, IntKind.signed]
        omega
      by_cases hv : G.hexv s (i + 2) < 55296 ∨ 57344 ≤ G.hexv s (i + 2)
      · have E : Hid (numV s i = (G.hexv s (i + 2), 5)) := by
          show numV s i = _
          rw [numV, if_pos ⟨by omega, hh, hv⟩]
        rw [decide_eq_true hv] at hval
        clear hv hh
        have n1 : (G.hexv s (i + 2) : Int) ≤ 65535 := by omega
        have n0 : 0 ≤ (G.hexv s (i + 2) : Int) := by omega
        clear hle
        obtain ⟨n, hn⟩ : ∃ n : Int, n = (G.hexv s (i + 2) : Int) := ⟨_, rfl⟩
        rw [← hn] at hN hval hw n1 n0
        have HN : Hid (n = (G.hexv s (i + 2) : Int)) := hn
        clear hn
        go_enter Tryz.func189, Tryz.ntmps189
        go_wp2_with (first
          | (go_at_call 197; refine hN.mono ?_; rintro e w1 ⟨rfl, hb⟩)
          | (go_at_call 117; refine (Tryz.utf8_ValidRune _ _).mono ?_; rw [hval]; rintro e w2 ⟨rfl, rfl⟩))
        go_ret2
        rw [E.out, ← HN.out]
        exact ⟨rfl, hb⟩
      · have E : Hid (numV s i = (0, 0)) := by
          show numV s i = _
          rw [numV, if_neg (fun h => hv h.2.2)]
        rw [decide_eq_false hv] at hval
        clear hv hh
        have n1 : (G.hexv s (i + 2) : Int) ≤ 65535 := by omega
        have n0 : 0 ≤ (G.hexv s (i + 2) : Int) := by omega
        clear hle
        obtain ⟨n, hn⟩ : ∃ n : Int, n = (G.hexv s (i + 2) : Int) := ⟨_, rfl⟩
        rw [← hn] at hN hval hw n1 n0
        have HN : Hid (n = (G.hexv s (i + 2) : Int)) := hn
        clear hn
        go_enter Tryz.func189, Tryz.ntmps189
        go_wp2_with (first
          | (go_at_call 197; refine hN.mono ?_; rintro e w1 ⟨rfl, hb⟩)
          | (go_at_call 117; refine (Tryz.utf8_ValidRune _ _).mono ?_; rw [hval]; rintro e w2 ⟨rfl, rfl⟩))
        go_ret2
        rw [E.out]
        exact ⟨rfl, hb⟩
    · rw [if_neg hh] at hN
      have E : Hid (numV s i = (0, 0)) := by
        show numV s i = _
        rw [numV, if_neg (fun h => hh h.2.1)]
      go_enter Tryz.func189, Tryz.ntmps189
      go_wp2_with (first
        | (go_at_call 197; refine hN.mono ?_; rintro e w1 ⟨⟨N, rfl⟩, hb⟩)
        | (go_at_call 117; refine (Tryz.utf8_ValidRune _ _).mono ?_; rintro e w2 ⟨rfl, rfl⟩))
      go_ret2
      rw [E.out]
      exact ⟨rfl, hb⟩
end Pr
end Go.Proofs.YtpgcidpghmoibaaGreatDoor

namespace Go.Proofs.YtpgcidpghmoibaaGreatDoor
namespace Pr
open Go.RowKit
open Rf (Kept)
def escV (s : ByteArray) (i : Nat) : Nat × Nat := match G.esc s i with
  | some (x, j) => (x, j - (i + 1))
  | none => (0, 0)
theorem esc_self {s : ByteArray} {i : Nat} {x : Nat} (h : G.pk s (i + 1) = (x : Int)) (hx : G.self (x : Int) = true) : escV s i = (x, 1) := by
  have e : G.esc s i = some (x, i + 2) := by
    rw [G.esc, if_pos (by rw [h]; exact hx), h]
    rfl
  rw [escV, e]
  show (x, i + 2 - (i + 1)) = _
  congr 1
  omega
theorem esc_n {s : ByteArray} {i : Nat} (h : G.pk s (i + 1) = 110) : escV s i = (10, 1) := by
  have e : G.esc s i = some (10, i + 2) := by
    rw [G.esc, if_neg (by rw [h]; decide), if_pos h]
  rw [escV, e]
  show (10, i + 2 - (i + 1)) = _
  congr 1
  omega
theorem esc_t {s : ByteArray} {i : Nat} (h : G.pk s (i + 1) = 116) : escV s i = (9, 1) := by
  have e : G.esc s i = some (9, i + 2) := by
    rw [G.esc, if_neg (by rw [h]; decide), if_neg (by omega), if_pos h]
  rw [escV, e]
  show (9, i + 2 - (i + 1)) = _
  congr 1
  omega
theorem esc_u {s : ByteArray} {i : Nat} (h : G.pk s (i + 1) = 117) : escV s i = numV s i := by
  unfold escV numV
  rw [G.esc, if_neg (by rw [h]; decide), if_neg (by omega), if_neg (by omega)]
  by_cases hc : i + 6 ≤ s.size ∧ G.hexs s (i + 2) = true ∧ (G.hexv s (i + 2) < 55296 ∨ 57344 ≤ G.hexv s (i + 2))
  · rw [if_pos ⟨h, hc⟩, if_pos hc]
    show (_, i + 6 - (i + 1)) = _
    congr 1
    omega
  · rw [if_neg (fun h => hc h.2), if_neg hc]
theorem esc_no {s : ByteArray} {i : Nat} (h : G.self (G.pk s (i + 1)) = false) (h1 : G.pk s (i + 1) ≠ 110) (h2 : G.pk s (i + 1) ≠ 116) (h3 : G.pk s (i + 1) ≠ 117) : escV s i = (0, 0) := by
  have e : G.esc s i = none := by
    rw [G.esc, if_neg (by rw [h]; decide), if_neg h1, if_neg h2, if_neg (fun h => h3 h.1)]
  rw [escV, e]
set_option maxRecDepth 100000 in
set_option maxHeartbeats 1000000 in
theorem escaped_any (s : ByteArray) (i : Nat) (w : World) (hs : s.size ≤ 2000) (hi : i + 1 ≤ s.size) (hT : Tabs w) :
    Calls Tryz.prog 176 #[.string (s.extract (i + 1) s.size)] w fun e w' => e = .returned (.tuple #[.int .i32 ((escV s i).1 : Int), .int .i64 ((escV s i).2 : Int)]) ∧ Below w.heap.size w w' := by
  have hsz := extract_size s (i + 1) hi
  have hN := numbered_any s i w hs hi hT
  by_cases h0 : i + 1 < s.size
  · have hg : ∀ h, ((s.extract (i + 1) s.size)[0]'h).toNat = U.at' s (i + 1) := by
      intro h
      rw [ByteArray.getElem_extract, U.at_get]
    have hpk : G.pk s (i + 1) = (U.at' s (i + 1) : Int) := G.pk_lt h0
    obtain ⟨rest, hrest, hgr⟩ : ∃ r, r = s.extract (i + 1) s.size ∧ ∀ h : 0 < r.size, (r[0]'h).toNat = U.at' s (i + 1) := ⟨_, rfl, hg⟩
    rw [← hrest] at hsz hN ⊢
    clear hrest hg
    have hl : 0 < rest.size := by omega
    have hl' : (0 : Int) < (rest.size : Int) := by omega
    have hemp : rest.toList.isEmpty = false := by
      rw [← decide_eq_emptyBytes]
      exact decide_eq_false (fun h => by rw [h] at hl; cases hl)
    have hb := U.at_lt s (i + 1)
    have hg2 := hgr hl
    clear hgr
    rcases (by
      by_cases a1 : U.at' s (i + 1) = 39 ∨ U.at' s (i + 1) = 92 ∨ U.at' s (i + 1) = 91 ∨ U.at' s (i + 1) = 93 ∨ U.at' s (i + 1) = 45 ∨ U.at' s (i + 1) = 94
      · exact .inl a1
      · exact .inr a1 : (U.at' s (i + 1) = 39 ∨ U.at' s (i + 1) = 92 ∨ U.at' s (i + 1) = 91 ∨ U.at' s (i + 1) = 93 ∨ U.at' s (i + 1) = 45 ∨ U.at' s (i + 1) = 94) ∨ ¬ (U.at' s (i + 1) = 39 ∨ U.at' s (i + 1) = 92 ∨ U.at' s (i + 1) = 91 ∨ U.at' s (i + 1) = 93 ∨ U.at' s (i + 1) = 45 ∨ U.at' s (i + 1) = 94)) with hx | hx
    · clear hN
      rcases hx with hx | hx | hx | hx | hx | hx
      all_goals
        have E : Hid (escV s i = (U.at' s (i + 1), 1)) := esc_self hpk (by rw [hx]; rfl)
        have hg3 : (rest[0]'hl).toNat = U.at' s (i + 1) := hg2
        rw [hx] at hg2
        go_enter Tryz.func176, Tryz.ntmps176
        go_wp2
        go_ret2
        rw [E.out, hx]
        exact ⟨rfl, Below.refl _ _⟩
    · have hself : G.self (G.pk s (i + 1)) = false := by rw [hpk]; simp [G.self]; omega
      by_cases h110 : U.at' s (i + 1) = 110
      · have E : Hid (escV s i = (10, 1)) := esc_n (by rw [hpk, h110]; rfl)
        rw [h110] at hg2
        clear hN
        go_enter Tryz.func176, Tryz.ntmps176
        go_wp2
        go_ret2
        rw [E.out]
        exact ⟨rfl, Below.refl _ _⟩
      · by_cases h116 : U.at' s (i + 1) = 116
        · have E : Hid (escV s i = (9, 1)) := esc_t (by rw [hpk, h116]; rfl)
          rw [h116] at hg2
          clear hN
          go_enter Tryz.func176, Tryz.ntmps176
          go_wp2
          go_ret2
          rw [E.out]
          exact ⟨rfl, Below.refl _ _⟩
        · by_cases h117 : U.at' s (i + 1) = 117
          · have E : Hid (escV s i = numV s i) := esc_u (by rw [hpk, h117]; rfl)
            rw [h117] at hg2
            go_enter Tryz.func176, Tryz.ntmps176
            go_wp2_with (go_at_call 189; refine hN.mono ?_; rintro e w1 ⟨rfl, hb1⟩)
            go_ret2
            rw [E.out]
            exact ⟨rfl, hb1⟩
          · have E : Hid (escV s i = (0, 0)) := esc_no hself (by rw [hpk]; omega) (by rw [hpk]; omega) (by rw [hpk]; omega)
            clear hN hself hpk
            generalize U.at' s (i + 1) = v at *
            have q1 : ¬ (rest[0]'hl).toNat = 39 := by omega
            have q2 : ¬ (rest[0]'hl).toNat = 92 := by omega
            have q3 : ¬ (rest[0]'hl).toNat = 91 := by omega
            have q4 : ¬ (rest[0]'hl).toNat = 93 := by omega
            have q5 : ¬ (rest[0]'hl).toNat = 45 := by omega
            have q6 : ¬ (rest[0]'hl).toNat = 94 := by omega
            have q7 : ¬ (rest[0]'hl).toNat = 110 := by omega
            have q8 : ¬ (rest[0]'hl).toNat = 116 := by omega
            have q9 : ¬ (rest[0]'hl).toNat = 117 := by omega
            clear hx h110 h116 h117 hg2
            go_enter Tryz.func176, Tryz.ntmps176
            go_wp2
            go_ret2
            rw [E.out]
            exact ⟨rfl, Below.refl _ _⟩
  · have E : Hid (escV s i = (0, 0)) := by
      have e : G.pk s (i + 1) = -1 := G.pk_ge h0
      exact esc_no (by rw [e]; rfl) (by omega) (by omega) (by omega)
    obtain ⟨rest, hrest⟩ : ∃ r, r = s.extract (i + 1) s.size := ⟨_, rfl⟩
    rw [← hrest] at hsz ⊢
    clear hrest hN
    have hemp : rest.toList.isEmpty = true := by
      rw [← decide_eq_emptyBytes]
      exact decide_eq_true (ByteArray.size_eq_zero_iff.1 (by omega))
    go_enter Tryz.func176, Tryz.ntmps176
    go_wp2
    go_ret2
    rw [E.out]
    exact ⟨rfl, Below.refl _ _⟩
end Pr
end Go.Proofs.YtpgcidpghmoibaaGreatDoor

namespace Go.Proofs.YtpgcidpghmoibaaGreatDoor
namespace Pr
open Go.RowKit
open Rf (Kept)
theorem esc_gt {s : ByteArray} {i x j : Nat} (h : G.esc s i = some (x, j)) : i + 2 ≤ j := by
  unfold G.esc at h
  split at h
  · simp at h; omega
  · split at h
    · simp at h; omega
    · split at h
      · simp at h; omega
      · split at h
        · simp at h; omega
        · cases h
abbrev Gr (b : Nat) (w w' : World) : Prop := Kept (fun k => k ≠ b) w w'
theorem Gr.below {b : Nat} {w w' : World} (h : Below w.heap.size w w') : Gr b w w' := Kept.of_below h
theorem Gr.set {b : Nat} {w w1 : World} (h : Gr b w w1) (o : Nat) (v : Value) : Gr b w (w1.setCell ⟨b, o, none⟩ v) := Kept.setCell h (q := ⟨b, o, none⟩) (fun hn => hn rfl) v
def Own (b : Nat) : Prop := b ≠ 1 ∧ b ≠ 2 ∧ b ≠ 3
theorem Tabs.gr {b : Nat} {w w' : World} (h : Tabs w) (hg : Gr b w w') (hb : Own b) : Tabs w' := h.kept hg (Ne.symm hb.1) (Ne.symm hb.2.1) (Ne.symm hb.2.2)
theorem RB.below {w w' : World} {b : Nat} {s : ByteArray} {c : C} {m vR : Value} (h : RB w b s c m vR) (hb : Below w.heap.size w w') : RB w' b s c m vR := (hb.block b h.lt).trans h
def CharPost (w : World) (b : Nat) (s : ByteArray) (c : C) (m vR : Value) (o : Option (Nat × Nat)) (e : Ending) (w' : World) : Prop :=
  Gr b w w' ∧ match o with
    | some (x, j) => e = .returned (.tuple #[.int .i32 (x : Int), .bool true]) ∧ RB w' b s { c with i := j } m vR
    | none => e = .returned (.tuple #[.int .i32 0, .bool false]) ∧ RB w' b s { c with p := c.i, e := 2 } m vR
set_option maxRecDepth 100000 in
set_option maxHeartbeats 1000000 in
theorem escape_any (w : World) (b : Nat) (s : ByteArray) (c : C) (m vR : Value) (hR : RB w b s c m vR) (hs : s.size ≤ 2000) (hi : c.i < s.size) (hT : Tabs w) :
    Calls Tryz.prog 169 #[.pointer (some ⟨b, 0, none⟩)] w fun e w' => CharPost w b s c m vR (G.esc s c.i) e w' := by
  obtain ⟨c0, c1, c2, c3, c4, c5, c6, fr⟩ := hR.reads
  have r0 : ∀ d os, (Sort.grow (redrawn w d) os).cell? ⟨b, 0, none⟩ = some (.string s) := fun d os => cell_regrown c0 d os
  have r1 : ∀ d os, (Sort.grow (redrawn w d) os).cell? ⟨b, 1, none⟩ = some (.int .i64 (c.i : Int)) := fun d os => cell_regrown c1 d os
  have h0 : (0 : Int) ≤ (c.i : Int) + 1 := by omega
  have h1 : (c.i : Int) + 1 ≤ (s.size : Int) := by omega
  have hwr : IntKind.i64.wrap ((c.i : Int) + 1) = (c.i : Int) + 1 := by
    simp [IntKind.wrap, IntKind.bits, IntKind.signed]
    omega
  have hN : ∀ d os, Calls Tryz.prog 176 #[.string (s.extract (c.i + 1) s.size)] (Sort.grow (redrawn w d) os) fun e w'' => e = .returned (.tuple #[.int .i32 ((escV s c.i).1 : Int), .int .i64 ((escV s c.i).2 : Int)]) ∧ ∃ p : Regrown, w'' = Sort.grow (redrawn w p.d) p.os :=
    fun d os => Calls.regrown_of (escaped_any s c.i _ hs hi (hT.below (below_regrown w d os)))
  cases he : G.esc s c.i with
  | none =>
    have e0 : escV s c.i = (0, 0) := by rw [escV, he]
    rw [e0] at hN
    clear he e0
    go_enter Tryz.func169, Tryz.ntmps169
    go_wp2
    refine wp_region_quiet_below (by kernel_rfl) (by kernel_rfl) ?_
    repeat (first | go_big_quiet_step (exact hN _ _) | quiet_step (exact hN _ _))
    refine wpQuiet_nil ?_
    intro _ hw'
    obtain ⟨⟨dq, osq⟩, hw''⟩ := hw'
    subst hw''
    have hbel := below_regrown w dq osq
    have hR1 := hR.below hbel
    have HB : Hid _ := hbel
    clear hbel r0 hN
    go_wp2_with (go_at_call 127; refine (fail_any _ b s c m vR c.i 2 hR1).mono ?_; rintro e w2 ⟨rfl, hR2, hE2⟩)
    go_ret2
    exact ⟨(Gr.below HB.out).trans hE2.kept, rfl, hR2⟩
  | some q =>
    obtain ⟨x, j⟩ := q
    have hj := esc_gt he
    have hbd := G.esc_bd he
    have e0 : escV s c.i = (x, j - (c.i + 1)) := by rw [escV, he]
    rw [e0] at hN
    clear he e0
    obtain ⟨k, hk⟩ : ∃ k : Nat, j = c.i + 1 + k := ⟨j - (c.i + 1), by omega⟩
    have hk1 : j - (c.i + 1) = k := by omega
    have hk0 : 0 < k := by omega
    have hk2 : k ≤ 2000 := by omega
    simp only [hk1] at hN
    have HK : Hid (j = c.i + 1 + k) := hk
    clear hk1 hk hbd hj
    have hki : (0 : Int) < (k : Int) := by omega
    go_enter Tryz.func169, Tryz.ntmps169
    go_wp2
    refine wp_region_quiet_below (by kernel_rfl) (by kernel_rfl) ?_
    repeat (first | go_big_quiet_step (exact hN _ _) | quiet_step (exact hN _ _))
    refine wpQuiet_nil ?_
    intro _ hw'
    obtain ⟨⟨dq, osq⟩, hw''⟩ := hw'
    subst hw''
    have hbel := below_regrown w dq osq
    have hR1 := hR.below hbel
    obtain ⟨d0, d1, d2, d3, d4, d5, d6, dr⟩ := hR1.reads
    have HB : Hid _ := hbel
    clear hbel r0 hN
    go_wp2
    go_ret2
    have e : (c.i : Int) + (1 + (k : Int)) = ((j : Nat) : Int) := by rw [HK.out]; omega
    rw [e]
    exact ⟨(Gr.below HB.out).set _ _, rfl, hR1.setI j⟩
end Pr
end Go.Proofs.YtpgcidpghmoibaaGreatDoor
