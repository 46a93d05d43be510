/-
  TEXTS BEHIND ONE ANOTHER, without the program: the units of a text, a byte below 128 and another text; a unit's bytes are its rune written anew, but for a byte that is no rune's. Nothing of the program is run here. Conditions stand at each fact.
-/
import Derived.Test.YtpgcidpghmoibaaGreatDoorJ01
import Derived.Lib.MapLaws
namespace Go.Proofs.YtpgcidpghmoibaaGreatDoor
namespace U

/-- A text's bytes alone, with a byte below 128 behind them, decode as with any bytes behind those. -/
theorem decode_same (s u : ByteArray) (i : Nat) (hi : i < s.size) (hsz : s.size < u.size) (hat : ∀ j, j < s.size → at' u j = at' s j) (hx : at' u s.size < 128) : Utf8.decode u i = Utf8.decode s i := by
  have tlE : ∀ j, j ≤ s.size → tl u j = tl s j := by
    intro j hj
    rw [Bool.eq_iff_iff, tl_iff, tl_iff]
    rcases Nat.lt_or_ge j s.size with h | h
    · rw [hat j h]
      constructor
      · rintro ⟨_, h1⟩; exact ⟨h, h1⟩
      · rintro ⟨_, h1⟩; exact ⟨by omega, h1⟩
    · obtain rfl : j = s.size := by omega
      constructor
      · rintro ⟨_, h1, _⟩; omega
      · rintro ⟨h1, _⟩; omega
  rw [decode_eq, decode_eq, hat i hi, tlE (i + 1) (by omega)]
  by_cases t1 : tl s (i + 1) = true
  · have l1 := ((tl_iff _ _).1 t1).1
    rw [hat (i + 1) l1, tlE (i + 2) (by omega)]
    by_cases t2 : tl s (i + 2) = true
    · have l2 := ((tl_iff _ _).1 t2).1
      rw [hat (i + 2) l2, tlE (i + 3) (by omega)]
      by_cases t3 : tl s (i + 3) = true
      · have l3 := ((tl_iff _ _).1 t3).1
        rw [hat (i + 3) l3]
      · simp [t3]
    · simp [t2]
  · simp [t1]

theorem decode_shift (a t : ByteArray) (p : Nat) : Utf8.decode (a ++ t) (a.size + p) = Utf8.decode t p := by
  rw [← Lib.decodeL_drop, ← Lib.decodeL_drop]
  congr 1
  have h : (a ++ t).data.toList = a.data.toList ++ t.data.toList := by simp
  rw [h, List.drop_append]
  have h2 : a.size = a.data.toList.length := rfl
  rw [h2, List.drop_eq_nil_of_le (by omega), List.nil_append]
  congr 1
  omega

theorem rest_shift (a t : ByteArray) : ∀ (d p : Nat), t.size - p ≤ d → rest (a ++ t) (a.size + p) = (rest t p).map fun x => (x.1, a.size + x.2)
  | 0, p, h => by
    rw [rest_end t p (by omega), rest_end _ _ (by rw [ByteArray.size_append]; omega)]
    rfl
  | d + 1, p, h => by
    by_cases hp : p < t.size
    · have hw := width t p hp
      rw [rest_step t p hp, rest_step _ _ (by rw [ByteArray.size_append]; omega), decode_shift, List.map_cons, Nat.add_assoc, rest_shift a t d _ (by omega)]
    · rw [rest_end t p (by omega), rest_end _ _ (by rw [ByteArray.size_append]; omega)]
      rfl

theorem rest_same (s u : ByteArray) (hsz : s.size < u.size) (hat : ∀ j, j < s.size → at' u j = at' s j) (hx : at' u s.size < 128) : ∀ (d p : Nat), p ≤ s.size → s.size - p ≤ d → rest u p = rest s p ++ rest u s.size
  | 0, p, h, hd => by
    obtain rfl : p = s.size := by omega
    rw [rest_end s s.size (Nat.le_refl _), List.nil_append]
  | d + 1, p, h, hd => by
    by_cases hp : p < s.size
    · have hw := width s p hp
      rw [rest_step s p hp, rest_step u p (by omega), decode_same s u p hp hsz hat hx, List.cons_append, rest_same s u hsz hat hx d _ hw.2 (by omega)]
    · obtain rfl : p = s.size := by omega
      rw [rest_end s s.size (Nat.le_refl _), List.nil_append]

def xB : ByteArray := ⟨#[120]⟩
theorem at_app (a t : ByteArray) (j : Nat) (h : j < a.size) : at' (a ++ t) j = at' a j := by
  have h2 : j < (a ++ t).size := by rw [ByteArray.size_append]; omega
  rw [← at_get (a ++ t) j h2, ← at_get a j h, ByteArray.getElem_append_left h]
/-- The units of two texts with an x between them. -/
theorem units_x (s t : ByteArray) : units (s ++ xB ++ t) = units s ++ (120, s.size) :: (units t).map fun x => (x.1, s.size + 1 + x.2) := by
  have hz : (s ++ xB).size = s.size + 1 := by rw [ByteArray.size_append]; rfl
  have hx : at' (s ++ xB ++ t) s.size = 120 := by
    rw [at_app (s ++ xB) t s.size (by omega)]
    have h := at_get (s ++ xB) s.size (by omega)
    rw [← h, ByteArray.getElem_append_right (Nat.le_refl _)]
    simp [xB]
    rfl
  have hsz : s.size < (s ++ xB ++ t).size := by rw [ByteArray.size_append]; omega
  have h1 := rest_same s (s ++ xB ++ t) hsz (fun j hj => by rw [at_app (s ++ xB) t j (by omega), at_app s xB j hj]) (by omega) s.size 0 (Nat.zero_le _) (by omega)
  unfold units
  rw [h1, rest_step _ s.size hsz, dec1 _ _ (by omega), hx]
  have h2 := rest_shift (s ++ xB) t t.size 0 (by omega)
  rw [hz] at h2
  simp only [Nat.add_zero] at h2
  rw [h2]

theorem enc_eq (r : Int) : (Utf8.encode r).data.toList = Lib.encodeRune r := by
  unfold Utf8.encode Lib.encodeRune
  by_cases hv : Utf8.valid r = true
  · have hv' : (0 ≤ r ∧ r < 55296) ∨ (57344 ≤ r ∧ r ≤ 1114111) := by simpa [Utf8.valid] using hv
    obtain ⟨c, rfl⟩ : ∃ c : Nat, r = c := ⟨r.toNat, by omega⟩
    simp only [hv, if_true, Int.toNat_natCast]
    by_cases h1 : c < 128
    · rw [if_pos h1, Lib.encodeRuneZ_one (by omega) (by omega)]
      rfl
    rw [if_neg h1]
    by_cases h2 : c < 2048
    · rw [if_pos h2, Lib.encodeRuneZ_two (by omega) (by omega)]
      simp only [List.map_cons, List.map_nil]
      rw [show (192 + (c : Int) / 64).toNat = 192 + c / 64 by omega, show (128 + (c : Int) % 64).toNat = 128 + c % 64 by omega]
    rw [if_neg h2]
    by_cases h3 : c < 65536
    · rw [if_pos h3, Lib.encodeRuneZ_three (by omega)]
      simp only [List.map_cons, List.map_nil]
      rw [show (224 + (c : Int) / 4096).toNat = 224 + c / 4096 by omega, show (128 + (c : Int) / 64 % 64).toNat = 128 + c / 64 % 64 by omega, show (128 + (c : Int) % 64).toNat = 128 + c % 64 by omega]
    rw [if_neg h3, Lib.encodeRuneZ_four (by omega) (by omega)]
    simp only [List.map_cons, List.map_nil]
    rw [show (240 + (c : Int) / 262144).toNat = 240 + c / 262144 by omega, show (128 + (c : Int) / 4096 % 64).toNat = 128 + c / 4096 % 64 by omega, show (128 + (c : Int) / 64 % 64).toNat = 128 + c / 64 % 64 by omega, show (128 + (c : Int) % 64).toNat = 128 + c % 64 by omega]
  · have hv' : r < 0 ∨ (55296 ≤ r ∧ r ≤ 57343) ∨ 1114111 < r := by
      have : ¬ ((0 ≤ r ∧ r < 55296) ∨ (57344 ≤ r ∧ r ≤ 1114111)) := by simpa [Utf8.valid] using hv
      omega
    rw [Lib.encodeRuneZ_bad hv']
    simp only [hv, Bool.false_eq_true, if_false]
    rfl

/-- A unit's bytes are its rune written anew, or it is one byte that is no rune's. -/
theorem piece (s : ByteArray) (p : Nat) (h : p < s.size) : s.extract p (p + (Utf8.decode s p).2) = Utf8.encode ((Utf8.decode s p).1 : Int) ∨ ((Utf8.decode s p).1 = 65533 ∧ (Utf8.decode s p).2 = 1) := by
  by_cases hv : (Utf8.decode s p).1 = 65533 ∧ (Utf8.decode s p).2 = 1
  · exact .inr hv
  · left
    have hne : s.data.toList.drop p ≠ [] := by
      intro h0
      have := congrArg List.length h0
      rw [List.length_drop, List.length_nil] at this
      have h2 : s.size = s.data.toList.length := rfl
      omega
    have e := Lib.encode_decode (s.data.toList.drop p) hne (by rw [Lib.decodeL_drop]; exact hv)
    rw [Lib.decodeL_drop, ← enc_eq] at e
    apply ByteArray.ext
    rw [← Array.toList_inj, e]
    rw [ByteArray.data_extract, Array.toList_extract, List.extract_eq_take_drop, Nat.add_sub_cancel_left]
end U
end Go.Proofs.YtpgcidpghmoibaaGreatDoor
