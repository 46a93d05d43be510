/-
  THE REFERENCE's READER: the walk of hex: four digits as a number. Condition: the string has four bytes.
  THE REFERENCE's WALKS: tail and Next of package seamref answer the model's own decoder. Condition: the place lies in the text.
-/
import Derived.Test.YtpgcidpghmoibaaGreatDoorJ04
import Derived.Test.YtpgcidpghmoibaaGreatDoorRows
import Derived.Test.YtpgcidpghmoibaaGreatDoorJ01
import Derived.WalkKit
import Derived.WalkSpells
import Derived.WalkLawsBesides
import Derived.Handy
namespace Go.Proofs.YtpgcidpghmoibaaGreatDoor
namespace Rf
open Go.RowKit
open G (PNode)

def hx (t : ByteArray) (i : Nat) : Nat → Nat
  | 0 => 0
  | k + 1 => 16 * hx t i k + G.dig (U.at' t (i + k))
theorem hx_four (t : ByteArray) (i : Nat) : hx t i 4 = G.hexv t i := by
  simp only [hx, G.hexv, Nat.add_zero]
  omega
theorem hexs_iff (t : ByteArray) (i : Nat) : G.hexs t i = true ↔ ∀ m, m < 4 → G.dig (U.at' t (i + m)) < 16 := by
  simp only [G.hexs, Bool.and_eq_true, decide_eq_true_eq]
  constructor
  · rintro ⟨⟨⟨h0, h1⟩, h2⟩, h3⟩ m hm
    match m, hm with
    | 0, _ => exact h0
    | 1, _ => exact h1
    | 2, _ => exact h2
    | 3, _ => exact h3
  · intro h
    exact ⟨⟨⟨h 0 (by omega), h 1 (by omega)⟩, h 2 (by omega)⟩, h 3 (by omega)⟩
theorem hx_lt (t : ByteArray) (i : Nat) : ∀ k, (∀ m, m < k → G.dig (U.at' t (i + m)) < 16) → hx t i k < 16 ^ k
  | 0, _ => by simp [hx]
  | k + 1, h => by
    have h1 := hx_lt t i k (fun m hm => h m (by omega))
    have h2 := h k (by omega)
    simp only [hx, Nat.pow_succ]
    omega

def hexV (t : ByteArray) : Int := if G.hexs t 0 = true then (G.hexv t 0 : Int) else -1

set_option maxRecDepth 100000 in
set_option maxHeartbeats 1000000 in
theorem hex_any (t : ByteArray) (w : World) (ht : t.size = 4) :
    Calls Tryz.prog 172 #[.string t] w fun e w' => e = .returned (.int .i64 (hexV t)) ∧ w' = w := by
  go_enter Tryz.func172, Tryz.ntmps172
  go_wp2
  go_loop [3, 4] (fun n i => ∃ k : Nat, k ≤ 4 ∧ i = .int .i64 k ∧ n = .int .i64 (hx t 0 k) ∧ ∀ m, m < k → G.dig (U.at' t (0 + m)) < 16) (fun _ i => 4 - (intOf i).toNat)
  case atStart => exact ⟨0, by omega, rfl, rfl, by omega⟩
  case round =>
    obtain ⟨k, hk, rfl, rfl, hall⟩ := hrel
    have hlt16 := hx_lt t 0 k hall
    have hp : (16 : Nat) ^ k ≤ 16 ^ 4 := Nat.pow_le_pow_right (by omega) hk
    have hb : hx t 0 k ≤ 65536 := by omega
    have hall' : Hid (∀ m, m < k → G.dig (U.at' t (0 + m)) < 16) := hall
    clear hall hlt16 hp
    by_cases hlt : k < 4
    · have hl : k < t.size := by omega
      have hg := U.at_get t k hl
      have hc := U.at_lt t k
      rw [← hg] at hc
      have HG : Hid ((t[k]'hl).toNat = U.at' t k) := hg
      clear hg
      have step : G.dig (t[k]'hl).toNat < 16 → ∀ m, m < k + 1 → G.dig (U.at' t (0 + m)) < 16 := by
        intro h m hm
        by_cases e : m = k
        · subst e; rw [Nat.zero_add, ← HG.out]; exact h
        · exact hall'.out m (by omega)
      have val : hx t 0 (k + 1) = 16 * hx t 0 k + G.dig (t[k]'hl).toNat := by
        rw [hx, Nat.zero_add, HG.out]
      have HV : Hid _ := And.intro step val
      clear step val
      generalize hcc : (t[k]'hl).toNat = c at hc HV
      by_cases h1 : 48 ≤ c ∧ c ≤ 57
      · have hd : G.dig c = c - 48 := by simp [G.dig, h1]
        go_wp2
        all_goals
          go_round
          case rel => exact ⟨k + 1, by omega, by go_num, by rw [HV.out.2, hd]; go_num, HV.out.1 (by omega)⟩
          case measure => simp [intOf]; omega
      by_cases h2 : 97 ≤ c ∧ c ≤ 102
      · have hd : G.dig c = c - 87 := by simp [G.dig, h1, h2]
        go_wp2
        all_goals
          go_round
          case rel => exact ⟨k + 1, by omega, by go_num, by rw [HV.out.2, hd]; go_num, HV.out.1 (by omega)⟩
          case measure => simp [intOf]; omega
      by_cases h3 : 65 ≤ c ∧ c ≤ 70
      · have hd : G.dig c = c - 55 := by simp [G.dig, h1, h2, h3]
        go_wp2
        all_goals
          go_round
          case rel => exact ⟨k + 1, by omega, by go_num, by rw [HV.out.2, hd]; go_num, HV.out.1 (by omega)⟩
          case measure => simp [intOf]; omega
      · have hd : G.dig c = 16 := by simp [G.dig, h1, h2, h3]
        have HF : Hid (hexV t = -1) := by
          show hexV t = -1
          unfold hexV
          rw [if_neg]
          intro h
          have := (hexs_iff t 0).1 h k hlt
          rw [Nat.zero_add, ← HG.out, hcc, hd] at this
          omega
        go_wp2
        all_goals
          go_ret
          exact ⟨ret_int HF.out.symm, rfl⟩
    · obtain rfl : k = 4 := by omega
      have HF : Hid (hexV t = (hx t 0 4 : Int)) := by
        show hexV t = _
        unfold hexV
        rw [if_pos ((hexs_iff t 0).2 hall'.out), hx_four]
      go_wp2
      go_ret
      exact ⟨ret_int HF.out.symm, rfl⟩

theorem at_extract (s : ByteArray) (a c k : Nat) (h : a + k < c) (hc : c ≤ s.size) : U.at' (s.extract a c) k = U.at' s (a + k) := by
  have hk : k < (s.extract a c).size := by rw [ByteArray.size_extract]; omega
  rw [← U.at_get _ _ hk, ← U.at_get s (a + k) (by omega), ByteArray.getElem_extract]
theorem hexV_extract (s : ByteArray) (a : Nat) (h : a + 4 ≤ s.size) : hexV (s.extract a (a + 4)) = if G.hexs s a = true then (G.hexv s a : Int) else -1 := by
  unfold hexV G.hexs G.hexv
  rw [at_extract s a _ 0 (by omega) h, at_extract s a _ (0 + 1) (by omega) h, at_extract s a _ (0 + 2) (by omega) h, at_extract s a _ (0 + 3) (by omega) h]
  simp only [Nat.add_zero, Nat.zero_add]

end Rf
end Go.Proofs.YtpgcidpghmoibaaGreatDoor

namespace Go.Proofs.YtpgcidpghmoibaaGreatDoor
open Go.RowKit

theorem ret_bool {a b : Bool} (h : a = b) : Ending.returned (.bool a) = .returned (.bool b) := by rw [h]

set_option maxRecDepth 100000 in
set_option maxHeartbeats 400000 in
theorem tail_any (s : ByteArray) (i : Nat) (w : World) (_hs : s.size ≤ 9223372036854775807) (_hi : i ≤ 9223372036854775807) :
    Calls Tryz.prog 138 #[.string s, .int .i64 i] w fun e w' => e = .returned (.bool (U.tl s i)) ∧ w' = w := by
  by_cases hlt : i < s.size
  · have hb := U.at_lt s i
    have hg := U.at_get s i hlt
    have H : Hid ((s[i]'hlt).toNat = U.at' s i) := hg
    clear hg
    go_enter Tryz.func138, Tryz.ntmps138
    go_wp2
    · have h1 : (128 : Int) ≤ ((s[i]'hlt).toNat : Int) := by assumption
      rw [H.out] at h1
      go_ret
      refine ⟨ret_bool ?_, rfl⟩
      rw [H.out]
      simp only [U.tl, hlt, decide_true, Bool.true_and]
      rw [decide_eq_true (by omega : 128 ≤ U.at' s i), Bool.true_and]
      exact decide_eq_decide.2 (by omega)
    · have h1 : ((s[i]'hlt).toNat : Int) < 128 := by assumption
      rw [H.out] at h1
      go_ret
      refine ⟨ret_bool ?_, rfl⟩
      simp only [U.tl, hlt, decide_true, Bool.true_and]
      rw [decide_eq_false (by omega : ¬ 128 ≤ U.at' s i), Bool.false_and]
  · go_enter Tryz.func138, Tryz.ntmps138
    go_wp2
    go_ret
    refine ⟨ret_bool ?_, rfl⟩
    simp [U.tl, hlt]

/-- What Next says besides: is it a rune that is written well? -/
def wellAt (s : ByteArray) (i : Nat) : Bool :=
  if U.at' s i < 128 then true
  else if U.at' s i < 192 ∨ 248 ≤ U.at' s i then false
  else decide ((Utf8.decode s i).2 ≠ 1)

set_option maxRecDepth 100000 in
set_option maxHeartbeats 400000 in
theorem next_one (s : ByteArray) (i : Nat) (w : World) (_hs : s.size ≤ 1000000) (hlt : i < s.size) (hc : U.at' s i < 128) :
    Calls Tryz.prog 118 #[.string s, .int .i64 i] w fun e w' => e = .returned (.tuple #[.int .i64 (Utf8.decode s i).1, .int .i64 (Utf8.decode s i).2, .bool (wellAt s i)]) ∧ w' = w := by
  have hg := U.at_get s i hlt
  have hd := U.dec1 s i hc
  have hw : wellAt s i = true := by simp [wellAt, hc]
  rw [hd, hw, ← hg]
  have hc' : ((s[i]'hlt).toNat : Int) < 128 := by omega
  clear hd hw hg hc
  go_enter Tryz.func118, Tryz.ntmps118
  go_wp2
  go_ret3
  exact ⟨rfl, rfl⟩


set_option maxRecDepth 100000 in
set_option maxHeartbeats 400000 in
theorem next_bad (s : ByteArray) (i : Nat) (w : World) (_hs : s.size ≤ 1000000) (hlt : i < s.size) (h1 : 128 ≤ U.at' s i) (h2 : U.at' s i < 192 ∨ 248 ≤ U.at' s i) :
    Calls Tryz.prog 118 #[.string s, .int .i64 i] w fun e w' => e = .returned (.tuple #[.int .i64 (Utf8.decode s i).1, .int .i64 (Utf8.decode s i).2, .bool (wellAt s i)]) ∧ w' = w := by
  have hg := U.at_get s i hlt
  have hd := U.decBad s i h1 h2
  have hw : wellAt s i = false := by simp [wellAt, Nat.not_lt.2 h1, h2]
  have h3 := U.at_lt s i
  rw [hd, hw]
  rcases h2 with h2 | h2
  · have c1 : (128 : Int) ≤ ((s[i]'hlt).toNat : Int) := by omega
    have c2 : ((s[i]'hlt).toNat : Int) < 192 := by omega
    clear hd hw hg h1 h2 h3
    go_enter Tryz.func118, Tryz.ntmps118
    go_wp2
    go_ret3
    exact ⟨rfl, rfl⟩
  · have c1 : (248 : Int) ≤ ((s[i]'hlt).toNat : Int) := by omega
    have c2 : ((s[i]'hlt).toNat : Int) < 256 := by omega
    clear hd hw hg h1 h2 h3
    go_enter Tryz.func118, Tryz.ntmps118
    go_wp2
    go_ret3
    exact ⟨rfl, rfl⟩

theorem tail_at (s : ByteArray) (k : Nat) (j : Int) (w : World) (hj : j = (k : Int)) (hs : s.size ≤ 1000000) (hi : k ≤ 1000010) :
    Calls Tryz.prog 138 #[.string s, .int .i64 j] w fun e w' => e = .returned (.bool (U.tl s k)) ∧ w' = w := by
  subst hj
  exact tail_any s k w (by omega) (by omega)

theorem well_of {s : ByteArray} {i : Nat} (h1 : 192 ≤ U.at' s i) (h2 : U.at' s i < 248) : wellAt s i = decide ((Utf8.decode s i).2 ≠ 1) := by
  unfold wellAt
  rw [if_neg (by omega), if_neg (by omega)]

theorem ret3 {a b a' b' : Int} {c c' : Bool} (h1 : a = a') (h2 : b = b') (h3 : c = c') : Ending.returned (.tuple #[.int .i64 a, .int .i64 b, .bool c]) = .returned (.tuple #[.int .i64 a', .int .i64 b', .bool c']) := by
  rw [h1, h2, h3]

theorem Hid.intro {p : Prop} (h : p) : Hid p := h

/-- The end of a walk that found no rune. -/
theorem none3 {s : ByteArray} {i : Nat} (h1 : 192 ≤ U.at' s i) (h2 : U.at' s i < 248) (hd : Utf8.decode s i = (65533, 1)) :
    Ending.returned (.tuple #[.int .i64 65533, .int .i64 1, .bool false]) = .returned (.tuple #[.int .i64 (Utf8.decode s i).1, .int .i64 (Utf8.decode s i).2, .bool (wellAt s i)]) := by
  rw [well_of h1 h2, hd]; rfl

/-- The end of a walk that found one. -/
theorem some3 {s : ByteArray} {i : Nat} {v n : Nat} {x y : Int} (h1 : 192 ≤ U.at' s i) (h2 : U.at' s i < 248) (hd : Utf8.decode s i = (v, n)) (hn : n ≠ 1) (hx : x = v) (hy : y = n) :
    Ending.returned (.tuple #[.int .i64 x, .int .i64 y, .bool true]) = .returned (.tuple #[.int .i64 (Utf8.decode s i).1, .int .i64 (Utf8.decode s i).2, .bool (wellAt s i)]) := by
  rw [well_of h1 h2, hd, hx, hy]; simp [hn]

set_option maxRecDepth 100000 in
set_option maxHeartbeats 1000000 in
theorem next_2_no1 (s : ByteArray) (i : Nat) (w : World) (hs : s.size ≤ 1000000) (hlt : i < s.size) (h1 : 192 ≤ U.at' s i) (h2 : U.at' s i < 224) (t1 : U.tl s (i + 1) = false) :
    Calls Tryz.prog 118 #[.string s, .int .i64 i] w fun e w' => e = .returned (.tuple #[.int .i64 (Utf8.decode s i).1, .int .i64 (Utf8.decode s i).2, .bool (wellAt s i)]) ∧ w' = w := by
  have hg := U.at_get s i hlt
  have hd : Utf8.decode s i = (65533, 1) := by rw [U.dec2 s i h1 h2]; simp [t1]
  have E := Hid.intro (none3 (by omega) (by omega) hd)
  have c1 : (192 : Int) ≤ ((s[i]'hlt).toNat : Int) := by omega
  have c2 : ((s[i]'hlt).toNat : Int) < 224 := by omega
  clear hd hg h1 h2
  go_enter Tryz.func118, Tryz.ntmps118
  go_wp2
  refine wp_loop_rounds 1 ?_
  rw [rounds_succ]
  go_wp2_with (go_at_call 138; refine (tail_at s (i + 1) _ _ (by omega) hs (by omega)).mono ?_; rintro e w' ⟨rfl, rfl⟩)
  go_ret3
  exact ⟨E.out, rfl⟩

set_option maxRecDepth 100000 in
set_option maxHeartbeats 1000000 in
theorem next_2_yes (s : ByteArray) (i : Nat) (w : World) (hs : s.size ≤ 1000000) (hlt : i < s.size) (h1 : 192 ≤ U.at' s i) (h2 : U.at' s i < 224) (t1 : U.tl s (i + 1) = true) :
    Calls Tryz.prog 118 #[.string s, .int .i64 i] w fun e w' => e = .returned (.tuple #[.int .i64 (Utf8.decode s i).1, .int .i64 (Utf8.decode s i).2, .bool (wellAt s i)]) ∧ w' = w := by
  have hg := U.at_get s i hlt
  have hd := U.dec2 s i h1 h2
  have c1 : (192 : Int) ≤ ((s[i]'hlt).toNat : Int) := by omega
  have c2 : ((s[i]'hlt).toNat : Int) < 224 := by omega
  have q1 := (U.tl_iff s (i + 1)).1 t1
  have g1 := U.at_get s (i + 1) q1.1
  have l1 := q1.1
  have c1a : (128 : Int) ≤ ((s[i + 1]'l1).toNat : Int) := by omega
  have c1b : ((s[i + 1]'l1).toNat : Int) < 192 := by omega
  have hv : ((64 * (U.at' s i - 192) + U.at' s (i + 1) - 128 : Nat) : Int) = 64 * (((s[i]'hlt).toNat : Int) - 192) + ((s[i + 1]'l1).toNat : Int) - 128 := by omega
  generalize hV : 64 * (U.at' s i - 192) + U.at' s (i + 1) - 128 = V at *
  by_cases hok : 128 ≤ V
  · have hd' : Utf8.decode s i = (V, 2) := by rw [hd, if_pos ⟨t1, hok⟩]
    have E := Hid.intro (some3 (x := 64 * (((s[i]'hlt).toNat : Int) - 192) + ((s[i + 1]'l1).toNat : Int) - 128) (y := 2) (by omega) (by omega) hd' (by decide) hv.symm (by rfl))
    have d1 : (128 : Int) ≤ 64 * (((s[i]'hlt).toNat : Int) - 192) + ((s[i + 1]'l1).toNat : Int) - 128 := by omega
    have d3 : 64 * (((s[i]'hlt).toNat : Int) - 192) + ((s[i + 1]'l1).toNat : Int) - 128 ≤ 1114111 := by omega
    have d2 : 64 * (((s[i]'hlt).toNat : Int) - 192) + ((s[i + 1]'l1).toNat : Int) - 128 < 55296 := by omega
    clear hok hV hv
    clear hd hd' hg h1 h2 g1 q1
    go_enter Tryz.func118, Tryz.ntmps118
    go_wp2
    refine wp_loop_rounds 2 ?_
    rw [rounds_succ]
    go_wp2_with (go_at_call 138; refine (tail_at s (i + 1) _ _ (by omega) hs (by omega)).mono ?_; rintro e w' ⟨rfl, rfl⟩)
    rw [rounds_succ]
    go_wp2
    go_ret3
    exact ⟨E.out, rfl⟩
  · have hd' : Utf8.decode s i = (65533, 1) := by rw [hd, if_neg (fun h => hok h.2)]
    have E := Hid.intro (none3 (by omega) (by omega) hd')
    have d1 : 64 * (((s[i]'hlt).toNat : Int) - 192) + ((s[i + 1]'l1).toNat : Int) - 128 < 128 := by omega
    clear hok hV hv
    clear hd hd' hg h1 h2 g1 q1
    go_enter Tryz.func118, Tryz.ntmps118
    go_wp2
    refine wp_loop_rounds 2 ?_
    rw [rounds_succ]
    go_wp2_with (go_at_call 138; refine (tail_at s (i + 1) _ _ (by omega) hs (by omega)).mono ?_; rintro e w' ⟨rfl, rfl⟩)
    rw [rounds_succ]
    go_wp2
    go_ret3
    exact ⟨E.out, rfl⟩

set_option maxRecDepth 100000 in
set_option maxHeartbeats 1000000 in
theorem next_3_no1 (s : ByteArray) (i : Nat) (w : World) (hs : s.size ≤ 1000000) (hlt : i < s.size) (h1 : 224 ≤ U.at' s i) (h2 : U.at' s i < 240) (t1 : U.tl s (i + 1) = false) :
    Calls Tryz.prog 118 #[.string s, .int .i64 i] w fun e w' => e = .returned (.tuple #[.int .i64 (Utf8.decode s i).1, .int .i64 (Utf8.decode s i).2, .bool (wellAt s i)]) ∧ w' = w := by
  have hg := U.at_get s i hlt
  have hd : Utf8.decode s i = (65533, 1) := by rw [U.dec3 s i h1 h2]; simp [t1]
  have E := Hid.intro (none3 (by omega) (by omega) hd)
  have c1 : (224 : Int) ≤ ((s[i]'hlt).toNat : Int) := by omega
  have c2 : ((s[i]'hlt).toNat : Int) < 240 := by omega
  clear hd hg h1 h2
  go_enter Tryz.func118, Tryz.ntmps118
  go_wp2
  refine wp_loop_rounds 1 ?_
  rw [rounds_succ]
  go_wp2_with (go_at_call 138; refine (tail_at s (i + 1) _ _ (by omega) hs (by omega)).mono ?_; rintro e w' ⟨rfl, rfl⟩)
  go_ret3
  exact ⟨E.out, rfl⟩

set_option maxRecDepth 100000 in
set_option maxHeartbeats 1000000 in
theorem next_3_no2 (s : ByteArray) (i : Nat) (w : World) (hs : s.size ≤ 1000000) (hlt : i < s.size) (h1 : 224 ≤ U.at' s i) (h2 : U.at' s i < 240) (t1 : U.tl s (i + 1) = true) (t2 : U.tl s (i + 2) = false) :
    Calls Tryz.prog 118 #[.string s, .int .i64 i] w fun e w' => e = .returned (.tuple #[.int .i64 (Utf8.decode s i).1, .int .i64 (Utf8.decode s i).2, .bool (wellAt s i)]) ∧ w' = w := by
  have hg := U.at_get s i hlt
  have hd : Utf8.decode s i = (65533, 1) := by rw [U.dec3 s i h1 h2]; simp [t2]
  have E := Hid.intro (none3 (by omega) (by omega) hd)
  have c1 : (224 : Int) ≤ ((s[i]'hlt).toNat : Int) := by omega
  have c2 : ((s[i]'hlt).toNat : Int) < 240 := by omega
  have q1 := (U.tl_iff s (i + 1)).1 t1
  have g1 := U.at_get s (i + 1) q1.1
  have l1 := q1.1
  have c1a : (128 : Int) ≤ ((s[i + 1]'l1).toNat : Int) := by omega
  have c1b : ((s[i + 1]'l1).toNat : Int) < 192 := by omega
  clear g1 q1
  clear hd hg h1 h2
  go_enter Tryz.func118, Tryz.ntmps118
  go_wp2
  refine wp_loop_rounds 2 ?_
  rw [rounds_succ]
  go_wp2_with (go_at_call 138; refine (tail_at s (i + 1) _ _ (by omega) hs (by omega)).mono ?_; rintro e w' ⟨rfl, rfl⟩)
  rw [rounds_succ]
  go_wp2_with (go_at_call 138; refine (tail_at s (i + 2) _ _ (by omega) hs (by omega)).mono ?_; rintro e w' ⟨rfl, rfl⟩)
  go_ret3
  exact ⟨E.out, rfl⟩

set_option maxRecDepth 100000 in
set_option maxHeartbeats 1000000 in
theorem next_3_yes (s : ByteArray) (i : Nat) (w : World) (hs : s.size ≤ 1000000) (hlt : i < s.size) (h1 : 224 ≤ U.at' s i) (h2 : U.at' s i < 240) (t1 : U.tl s (i + 1) = true) (t2 : U.tl s (i + 2) = true) :
    Calls Tryz.prog 118 #[.string s, .int .i64 i] w fun e w' => e = .returned (.tuple #[.int .i64 (Utf8.decode s i).1, .int .i64 (Utf8.decode s i).2, .bool (wellAt s i)]) ∧ w' = w := by
  have hg := U.at_get s i hlt
  have hd := U.dec3 s i h1 h2
  have c1 : (224 : Int) ≤ ((s[i]'hlt).toNat : Int) := by omega
  have c2 : ((s[i]'hlt).toNat : Int) < 240 := by omega
  have q1 := (U.tl_iff s (i + 1)).1 t1
  have g1 := U.at_get s (i + 1) q1.1
  have l1 := q1.1
  have c1a : (128 : Int) ≤ ((s[i + 1]'l1).toNat : Int) := by omega
  have c1b : ((s[i + 1]'l1).toNat : Int) < 192 := by omega
  have q2 := (U.tl_iff s (i + 2)).1 t2
  have g2 := U.at_get s (i + 2) q2.1
  have l2 := q2.1
  have c2a : (128 : Int) ≤ ((s[i + 2]'l2).toNat : Int) := by omega
  have c2b : ((s[i + 2]'l2).toNat : Int) < 192 := by omega
  have hv : ((64 * (64 * (U.at' s i - 224) + U.at' s (i + 1) - 128) + U.at' s (i + 2) - 128 : Nat) : Int) = 64 * (64 * (((s[i]'hlt).toNat : Int) - 224) + ((s[i + 1]'l1).toNat : Int) - 128) + ((s[i + 2]'l2).toNat : Int) - 128 := by omega
  generalize hV : 64 * (64 * (U.at' s i - 224) + U.at' s (i + 1) - 128) + U.at' s (i + 2) - 128 = V at *
  by_cases hok : 2048 ≤ V ∧ (V < 55296 ∨ 57344 ≤ V)
  · have hd' : Utf8.decode s i = (V, 3) := by rw [hd, if_pos ⟨⟨t1, t2⟩, hok⟩]
    have E := Hid.intro (some3 (x := 64 * (64 * (((s[i]'hlt).toNat : Int) - 224) + ((s[i + 1]'l1).toNat : Int) - 128) + ((s[i + 2]'l2).toNat : Int) - 128) (y := 3) (by omega) (by omega) hd' (by decide) hv.symm (by rfl))
    rcases hok.2 with hlow | hlow
    all_goals
      have d1 : (2048 : Int) ≤ 64 * (64 * (((s[i]'hlt).toNat : Int) - 224) + ((s[i + 1]'l1).toNat : Int) - 128) + ((s[i + 2]'l2).toNat : Int) - 128 := by omega
      have d3 : 64 * (64 * (((s[i]'hlt).toNat : Int) - 224) + ((s[i + 1]'l1).toNat : Int) - 128) + ((s[i + 2]'l2).toNat : Int) - 128 ≤ 1114111 := by omega
    · have d2 : 64 * (64 * (((s[i]'hlt).toNat : Int) - 224) + ((s[i + 1]'l1).toNat : Int) - 128) + ((s[i + 2]'l2).toNat : Int) - 128 < 55296 := by omega
      clear hok hlow hV hv
      clear hd hd' hg h1 h2 g1 q1 g2 q2
      go_enter Tryz.func118, Tryz.ntmps118
      go_wp2
      refine wp_loop_rounds 3 ?_
      rw [rounds_succ]
      go_wp2_with (go_at_call 138; refine (tail_at s (i + 1) _ _ (by omega) hs (by omega)).mono ?_; rintro e w' ⟨rfl, rfl⟩)
      rw [rounds_succ]
      go_wp2_with (go_at_call 138; refine (tail_at s (i + 2) _ _ (by omega) hs (by omega)).mono ?_; rintro e w' ⟨rfl, rfl⟩)
      rw [rounds_succ]
      go_wp2
      go_ret3
      exact ⟨E.out, rfl⟩
    · have d2 : 57344 ≤ 64 * (64 * (((s[i]'hlt).toNat : Int) - 224) + ((s[i + 1]'l1).toNat : Int) - 128) + ((s[i + 2]'l2).toNat : Int) - 128 := by omega
      clear hok hlow hV hv
      clear hd hd' hg h1 h2 g1 q1 g2 q2
      go_enter Tryz.func118, Tryz.ntmps118
      go_wp2
      refine wp_loop_rounds 3 ?_
      rw [rounds_succ]
      go_wp2_with (go_at_call 138; refine (tail_at s (i + 1) _ _ (by omega) hs (by omega)).mono ?_; rintro e w' ⟨rfl, rfl⟩)
      rw [rounds_succ]
      go_wp2_with (go_at_call 138; refine (tail_at s (i + 2) _ _ (by omega) hs (by omega)).mono ?_; rintro e w' ⟨rfl, rfl⟩)
      rw [rounds_succ]
      go_wp2
      go_ret3
      exact ⟨E.out, rfl⟩
  · have hd' : Utf8.decode s i = (65533, 1) := by rw [hd, if_neg (fun h => hok h.2)]
    have E := Hid.intro (none3 (by omega) (by omega) hd')
    by_cases hlow : V < 2048
    · have d1 : 64 * (64 * (((s[i]'hlt).toNat : Int) - 224) + ((s[i + 1]'l1).toNat : Int) - 128) + ((s[i + 2]'l2).toNat : Int) - 128 < 2048 := by omega
      clear hok hlow hV hv
      clear hd hd' hg h1 h2 g1 q1 g2 q2
      go_enter Tryz.func118, Tryz.ntmps118
      go_wp2
      refine wp_loop_rounds 3 ?_
      rw [rounds_succ]
      go_wp2_with (go_at_call 138; refine (tail_at s (i + 1) _ _ (by omega) hs (by omega)).mono ?_; rintro e w' ⟨rfl, rfl⟩)
      rw [rounds_succ]
      go_wp2_with (go_at_call 138; refine (tail_at s (i + 2) _ _ (by omega) hs (by omega)).mono ?_; rintro e w' ⟨rfl, rfl⟩)
      rw [rounds_succ]
      go_wp2
      go_ret3
      exact ⟨E.out, rfl⟩
    · have d1 : (55296 : Int) ≤ 64 * (64 * (((s[i]'hlt).toNat : Int) - 224) + ((s[i + 1]'l1).toNat : Int) - 128) + ((s[i + 2]'l2).toNat : Int) - 128 := by omega
      have d2 : 64 * (64 * (((s[i]'hlt).toNat : Int) - 224) + ((s[i + 1]'l1).toNat : Int) - 128) + ((s[i + 2]'l2).toNat : Int) - 128 < 57344 := by omega
      clear hok hlow hV hv
      clear hd hd' hg h1 h2 g1 q1 g2 q2
      go_enter Tryz.func118, Tryz.ntmps118
      go_wp2
      refine wp_loop_rounds 3 ?_
      rw [rounds_succ]
      go_wp2_with (go_at_call 138; refine (tail_at s (i + 1) _ _ (by omega) hs (by omega)).mono ?_; rintro e w' ⟨rfl, rfl⟩)
      rw [rounds_succ]
      go_wp2_with (go_at_call 138; refine (tail_at s (i + 2) _ _ (by omega) hs (by omega)).mono ?_; rintro e w' ⟨rfl, rfl⟩)
      rw [rounds_succ]
      go_wp2
      go_ret3
      exact ⟨E.out, rfl⟩

set_option maxRecDepth 100000 in
set_option maxHeartbeats 1000000 in
theorem next_4_no1 (s : ByteArray) (i : Nat) (w : World) (hs : s.size ≤ 1000000) (hlt : i < s.size) (h1 : 240 ≤ U.at' s i) (h2 : U.at' s i < 248) (t1 : U.tl s (i + 1) = false) :
    Calls Tryz.prog 118 #[.string s, .int .i64 i] w fun e w' => e = .returned (.tuple #[.int .i64 (Utf8.decode s i).1, .int .i64 (Utf8.decode s i).2, .bool (wellAt s i)]) ∧ w' = w := by
  have hg := U.at_get s i hlt
  have hd : Utf8.decode s i = (65533, 1) := by rw [U.dec4 s i h1 h2]; simp [t1]
  have E := Hid.intro (none3 (by omega) (by omega) hd)
  have c1 : (240 : Int) ≤ ((s[i]'hlt).toNat : Int) := by omega
  have c2 : ((s[i]'hlt).toNat : Int) < 248 := by omega
  clear hd hg h1 h2
  go_enter Tryz.func118, Tryz.ntmps118
  go_wp2
  refine wp_loop_rounds 1 ?_
  rw [rounds_succ]
  go_wp2_with (go_at_call 138; refine (tail_at s (i + 1) _ _ (by omega) hs (by omega)).mono ?_; rintro e w' ⟨rfl, rfl⟩)
  go_ret3
  exact ⟨E.out, rfl⟩

set_option maxRecDepth 100000 in
set_option maxHeartbeats 1000000 in
theorem next_4_no2 (s : ByteArray) (i : Nat) (w : World) (hs : s.size ≤ 1000000) (hlt : i < s.size) (h1 : 240 ≤ U.at' s i) (h2 : U.at' s i < 248) (t1 : U.tl s (i + 1) = true) (t2 : U.tl s (i + 2) = false) :
    Calls Tryz.prog 118 #[.string s, .int .i64 i] w fun e w' => e = .returned (.tuple #[.int .i64 (Utf8.decode s i).1, .int .i64 (Utf8.decode s i).2, .bool (wellAt s i)]) ∧ w' = w := by
  have hg := U.at_get s i hlt
  have hd : Utf8.decode s i = (65533, 1) := by rw [U.dec4 s i h1 h2]; simp [t2]
  have E := Hid.intro (none3 (by omega) (by omega) hd)
  have c1 : (240 : Int) ≤ ((s[i]'hlt).toNat : Int) := by omega
  have c2 : ((s[i]'hlt).toNat : Int) < 248 := by omega
  have q1 := (U.tl_iff s (i + 1)).1 t1
  have g1 := U.at_get s (i + 1) q1.1
  have l1 := q1.1
  have c1a : (128 : Int) ≤ ((s[i + 1]'l1).toNat : Int) := by omega
  have c1b : ((s[i + 1]'l1).toNat : Int) < 192 := by omega
  clear g1 q1
  clear hd hg h1 h2
  go_enter Tryz.func118, Tryz.ntmps118
  go_wp2
  refine wp_loop_rounds 2 ?_
  rw [rounds_succ]
  go_wp2_with (go_at_call 138; refine (tail_at s (i + 1) _ _ (by omega) hs (by omega)).mono ?_; rintro e w' ⟨rfl, rfl⟩)
  rw [rounds_succ]
  go_wp2_with (go_at_call 138; refine (tail_at s (i + 2) _ _ (by omega) hs (by omega)).mono ?_; rintro e w' ⟨rfl, rfl⟩)
  go_ret3
  exact ⟨E.out, rfl⟩

set_option maxRecDepth 100000 in
set_option maxHeartbeats 1000000 in
theorem next_4_no3 (s : ByteArray) (i : Nat) (w : World) (hs : s.size ≤ 1000000) (hlt : i < s.size) (h1 : 240 ≤ U.at' s i) (h2 : U.at' s i < 248) (t1 : U.tl s (i + 1) = true) (t2 : U.tl s (i + 2) = true) (t3 : U.tl s (i + 3) = false) :
    Calls Tryz.prog 118 #[.string s, .int .i64 i] w fun e w' => e = .returned (.tuple #[.int .i64 (Utf8.decode s i).1, .int .i64 (Utf8.decode s i).2, .bool (wellAt s i)]) ∧ w' = w := by
  have hg := U.at_get s i hlt
  have hd : Utf8.decode s i = (65533, 1) := by rw [U.dec4 s i h1 h2]; simp [t3]
  have E := Hid.intro (none3 (by omega) (by omega) hd)
  have c1 : (240 : Int) ≤ ((s[i]'hlt).toNat : Int) := by omega
  have c2 : ((s[i]'hlt).toNat : Int) < 248 := by omega
  have q1 := (U.tl_iff s (i + 1)).1 t1
  have g1 := U.at_get s (i + 1) q1.1
  have l1 := q1.1
  have c1a : (128 : Int) ≤ ((s[i + 1]'l1).toNat : Int) := by omega
  have c1b : ((s[i + 1]'l1).toNat : Int) < 192 := by omega
  clear g1 q1
  have q2 := (U.tl_iff s (i + 2)).1 t2
  have g2 := U.at_get s (i + 2) q2.1
  have l2 := q2.1
  have c2a : (128 : Int) ≤ ((s[i + 2]'l2).toNat : Int) := by omega
  have c2b : ((s[i + 2]'l2).toNat : Int) < 192 := by omega
  clear g2 q2
  clear hd hg h1 h2
  go_enter Tryz.func118, Tryz.ntmps118
  go_wp2
  refine wp_loop_rounds 3 ?_
  rw [rounds_succ]
  go_wp2_with (go_at_call 138; refine (tail_at s (i + 1) _ _ (by omega) hs (by omega)).mono ?_; rintro e w' ⟨rfl, rfl⟩)
  rw [rounds_succ]
  go_wp2_with (go_at_call 138; refine (tail_at s (i + 2) _ _ (by omega) hs (by omega)).mono ?_; rintro e w' ⟨rfl, rfl⟩)
  rw [rounds_succ]
  go_wp2_with (go_at_call 138; refine (tail_at s (i + 3) _ _ (by omega) hs (by omega)).mono ?_; rintro e w' ⟨rfl, rfl⟩)
  go_ret3
  exact ⟨E.out, rfl⟩

set_option maxRecDepth 100000 in
set_option maxHeartbeats 1000000 in
theorem next_4_yes (s : ByteArray) (i : Nat) (w : World) (hs : s.size ≤ 1000000) (hlt : i < s.size) (h1 : 240 ≤ U.at' s i) (h2 : U.at' s i < 248) (t1 : U.tl s (i + 1) = true) (t2 : U.tl s (i + 2) = true) (t3 : U.tl s (i + 3) = true) :
    Calls Tryz.prog 118 #[.string s, .int .i64 i] w fun e w' => e = .returned (.tuple #[.int .i64 (Utf8.decode s i).1, .int .i64 (Utf8.decode s i).2, .bool (wellAt s i)]) ∧ w' = w := by
  have hg := U.at_get s i hlt
  have hd := U.dec4 s i h1 h2
  have c1 : (240 : Int) ≤ ((s[i]'hlt).toNat : Int) := by omega
  have c2 : ((s[i]'hlt).toNat : Int) < 248 := by omega
  have q1 := (U.tl_iff s (i + 1)).1 t1
  have g1 := U.at_get s (i + 1) q1.1
  have l1 := q1.1
  have c1a : (128 : Int) ≤ ((s[i + 1]'l1).toNat : Int) := by omega
  have c1b : ((s[i + 1]'l1).toNat : Int) < 192 := by omega
  have q2 := (U.tl_iff s (i + 2)).1 t2
  have g2 := U.at_get s (i + 2) q2.1
  have l2 := q2.1
  have c2a : (128 : Int) ≤ ((s[i + 2]'l2).toNat : Int) := by omega
  have c2b : ((s[i + 2]'l2).toNat : Int) < 192 := by omega
  have q3 := (U.tl_iff s (i + 3)).1 t3
  have g3 := U.at_get s (i + 3) q3.1
  have l3 := q3.1
  have c3a : (128 : Int) ≤ ((s[i + 3]'l3).toNat : Int) := by omega
  have c3b : ((s[i + 3]'l3).toNat : Int) < 192 := by omega
  have hv : ((64 * (64 * (64 * (U.at' s i - 240) + U.at' s (i + 1) - 128) + U.at' s (i + 2) - 128) + U.at' s (i + 3) - 128 : Nat) : Int) = 64 * (64 * (64 * (((s[i]'hlt).toNat : Int) - 240) + ((s[i + 1]'l1).toNat : Int) - 128) + ((s[i + 2]'l2).toNat : Int) - 128) + ((s[i + 3]'l3).toNat : Int) - 128 := by omega
  generalize hV : 64 * (64 * (64 * (U.at' s i - 240) + U.at' s (i + 1) - 128) + U.at' s (i + 2) - 128) + U.at' s (i + 3) - 128 = V at *
  by_cases hok : 65536 ≤ V ∧ V ≤ 1114111
  · have hd' : Utf8.decode s i = (V, 4) := by rw [hd, if_pos ⟨⟨t1, t2, t3⟩, hok⟩]
    have E := Hid.intro (some3 (x := 64 * (64 * (64 * (((s[i]'hlt).toNat : Int) - 240) + ((s[i + 1]'l1).toNat : Int) - 128) + ((s[i + 2]'l2).toNat : Int) - 128) + ((s[i + 3]'l3).toNat : Int) - 128) (y := 4) (by omega) (by omega) hd' (by decide) hv.symm (by rfl))
    have d1 : (65536 : Int) ≤ 64 * (64 * (64 * (((s[i]'hlt).toNat : Int) - 240) + ((s[i + 1]'l1).toNat : Int) - 128) + ((s[i + 2]'l2).toNat : Int) - 128) + ((s[i + 3]'l3).toNat : Int) - 128 := by omega
    have d3 : 64 * (64 * (64 * (((s[i]'hlt).toNat : Int) - 240) + ((s[i + 1]'l1).toNat : Int) - 128) + ((s[i + 2]'l2).toNat : Int) - 128) + ((s[i + 3]'l3).toNat : Int) - 128 ≤ 1114111 := by omega
    have d2 : 57344 ≤ 64 * (64 * (64 * (((s[i]'hlt).toNat : Int) - 240) + ((s[i + 1]'l1).toNat : Int) - 128) + ((s[i + 2]'l2).toNat : Int) - 128) + ((s[i + 3]'l3).toNat : Int) - 128 := by omega
    clear hok hV hv
    clear hd hd' hg h1 h2 g1 q1 g2 q2 g3 q3
    go_enter Tryz.func118, Tryz.ntmps118
    go_wp2
    refine wp_loop_rounds 4 ?_
    rw [rounds_succ]
    go_wp2_with (go_at_call 138; refine (tail_at s (i + 1) _ _ (by omega) hs (by omega)).mono ?_; rintro e w' ⟨rfl, rfl⟩)
    rw [rounds_succ]
    go_wp2_with (go_at_call 138; refine (tail_at s (i + 2) _ _ (by omega) hs (by omega)).mono ?_; rintro e w' ⟨rfl, rfl⟩)
    rw [rounds_succ]
    go_wp2_with (go_at_call 138; refine (tail_at s (i + 3) _ _ (by omega) hs (by omega)).mono ?_; rintro e w' ⟨rfl, rfl⟩)
    rw [rounds_succ]
    go_wp2
    go_ret3
    exact ⟨E.out, rfl⟩
  · have hd' : Utf8.decode s i = (65533, 1) := by rw [hd, if_neg (fun h => hok h.2)]
    have E := Hid.intro (none3 (by omega) (by omega) hd')
    by_cases hlow : V < 65536
    · have d1 : 64 * (64 * (64 * (((s[i]'hlt).toNat : Int) - 240) + ((s[i + 1]'l1).toNat : Int) - 128) + ((s[i + 2]'l2).toNat : Int) - 128) + ((s[i + 3]'l3).toNat : Int) - 128 < 65536 := by omega
      clear hok hlow hV hv
      clear hd hd' hg h1 h2 g1 q1 g2 q2 g3 q3
      go_enter Tryz.func118, Tryz.ntmps118
      go_wp2
      refine wp_loop_rounds 4 ?_
      rw [rounds_succ]
      go_wp2_with (go_at_call 138; refine (tail_at s (i + 1) _ _ (by omega) hs (by omega)).mono ?_; rintro e w' ⟨rfl, rfl⟩)
      rw [rounds_succ]
      go_wp2_with (go_at_call 138; refine (tail_at s (i + 2) _ _ (by omega) hs (by omega)).mono ?_; rintro e w' ⟨rfl, rfl⟩)
      rw [rounds_succ]
      go_wp2_with (go_at_call 138; refine (tail_at s (i + 3) _ _ (by omega) hs (by omega)).mono ?_; rintro e w' ⟨rfl, rfl⟩)
      rw [rounds_succ]
      go_wp2
      go_ret3
      exact ⟨E.out, rfl⟩
    · have d1 : (1114111 : Int) < 64 * (64 * (64 * (((s[i]'hlt).toNat : Int) - 240) + ((s[i + 1]'l1).toNat : Int) - 128) + ((s[i + 2]'l2).toNat : Int) - 128) + ((s[i + 3]'l3).toNat : Int) - 128 := by omega
      clear hok hlow hV hv
      clear hd hd' hg h1 h2 g1 q1 g2 q2 g3 q3
      go_enter Tryz.func118, Tryz.ntmps118
      go_wp2
      refine wp_loop_rounds 4 ?_
      rw [rounds_succ]
      go_wp2_with (go_at_call 138; refine (tail_at s (i + 1) _ _ (by omega) hs (by omega)).mono ?_; rintro e w' ⟨rfl, rfl⟩)
      rw [rounds_succ]
      go_wp2_with (go_at_call 138; refine (tail_at s (i + 2) _ _ (by omega) hs (by omega)).mono ?_; rintro e w' ⟨rfl, rfl⟩)
      rw [rounds_succ]
      go_wp2_with (go_at_call 138; refine (tail_at s (i + 3) _ _ (by omega) hs (by omega)).mono ?_; rintro e w' ⟨rfl, rfl⟩)
      rw [rounds_succ]
      go_wp2
      go_ret3
      exact ⟨E.out, rfl⟩

/-- Next, at every place of a text. -/
theorem next_any (s : ByteArray) (i : Nat) (w : World) (hs : s.size ≤ 1000000) (hlt : i < s.size) :
    Calls Tryz.prog 118 #[.string s, .int .i64 i] w fun e w' => e = .returned (.tuple #[.int .i64 (Utf8.decode s i).1, .int .i64 (Utf8.decode s i).2, .bool (wellAt s i)]) ∧ w' = w := by
  by_cases h1 : U.at' s i < 128
  · exact next_one s i w hs hlt h1
  by_cases h2 : U.at' s i < 192 ∨ 248 ≤ U.at' s i
  · exact next_bad s i w hs hlt (by omega) h2
  by_cases h3 : U.at' s i < 224
  · rcases Bool.eq_false_or_eq_true (U.tl s (i + 1)) with t1 | t1
    · exact next_2_yes s i w hs hlt (by omega) h3 t1
    · exact next_2_no1 s i w hs hlt (by omega) h3 t1
  by_cases h4 : U.at' s i < 240
  · rcases Bool.eq_false_or_eq_true (U.tl s (i + 1)) with t1 | t1
    · rcases Bool.eq_false_or_eq_true (U.tl s (i + 2)) with t2 | t2
      · exact next_3_yes s i w hs hlt (by omega) h4 t1 t2
      · exact next_3_no2 s i w hs hlt (by omega) h4 t1 t2
    · exact next_3_no1 s i w hs hlt (by omega) h4 t1
  · rcases Bool.eq_false_or_eq_true (U.tl s (i + 1)) with t1 | t1
    · rcases Bool.eq_false_or_eq_true (U.tl s (i + 2)) with t2 | t2
      · rcases Bool.eq_false_or_eq_true (U.tl s (i + 3)) with t3 | t3
        · exact next_4_yes s i w hs hlt (by omega) (by omega) t1 t2 t3
        · exact next_4_no3 s i w hs hlt (by omega) (by omega) t1 t2 t3
      · exact next_4_no2 s i w hs hlt (by omega) (by omega) t1 t2
    · exact next_4_no1 s i w hs hlt (by omega) (by omega) t1

end Go.Proofs.YtpgcidpghmoibaaGreatDoor
