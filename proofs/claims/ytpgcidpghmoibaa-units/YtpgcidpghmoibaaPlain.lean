/-
  PLAIN FACTS ON TEXTS, without the program: the units of a text as the model's own decoder finds them, one behind the other; nothing is claimed of the program here. No condition.
-/
import Derived.Laws.RangeAny
namespace Go.Proofs.Ytpgcidpghmoibaa
namespace U

/-- The byte at a place, as a number. -/
def at' (s : ByteArray) (i : Nat) : Nat := (s.get! i).toNat

theorem at_get (s : ByteArray) (i : Nat) (h : i < s.size) : (s[i]'h).toNat = at' s i := by
  have := get_at s i h
  unfold at'
  rw [← this]; rfl

theorem at_lt (s : ByteArray) (i : Nat) : at' s i < 256 := (s.get! i).toNat_lt

/-- A later byte of a rune stands at i. -/
def tl (s : ByteArray) (i : Nat) : Bool := decide (i < s.size) && decide (128 ≤ at' s i) && decide (at' s i < 192)

theorem tl_iff (s : ByteArray) (i : Nat) : tl s i = true ↔ i < s.size ∧ 128 ≤ at' s i ∧ at' s i < 192 := by
  simp [tl, and_assoc]

theorem cont_eq (s : ByteArray) (i k : Nat) : (decide (i + k < s.size) && (s.get! (i + k)).toNat / 64 == 2) = tl s (i + k) := by
  rw [Bool.eq_iff_iff, tl_iff]
  have := at_lt s (i + k)
  simp only [at'] at *
  simp
  omega

theorem valid_iff (c : Nat) : Utf8.valid (c : Int) = true ↔ (c < 55296 ∨ (57344 ≤ c ∧ c ≤ 1114111)) := by
  simp [Utf8.valid]; omega

/-- The model's decoder, its tests in our words. -/
theorem decode_eq (s : ByteArray) (i : Nat) : Utf8.decode s i =
    if at' s i < 128 then (at' s i, 1)
    else if (at' s i / 32 == 6 && tl s (i + 1)) = true then (if at' s i % 32 * 64 + at' s (i + 1) % 64 ≥ 128 then (at' s i % 32 * 64 + at' s (i + 1) % 64, 2) else (Utf8.runeError, 1))
    else if (at' s i / 16 == 14 && tl s (i + 1) && tl s (i + 2)) = true then (if (decide (at' s i % 16 * 4096 + at' s (i + 1) % 64 * 64 + at' s (i + 2) % 64 ≥ 2048) && Utf8.valid ((at' s i % 16 * 4096 + at' s (i + 1) % 64 * 64 + at' s (i + 2) % 64 : Nat) : Int)) = true then (at' s i % 16 * 4096 + at' s (i + 1) % 64 * 64 + at' s (i + 2) % 64, 3) else (Utf8.runeError, 1))
    else if (at' s i / 8 == 30 && tl s (i + 1) && tl s (i + 2) && tl s (i + 3)) = true then (if (decide (at' s i % 8 * 262144 + at' s (i + 1) % 64 * 4096 + at' s (i + 2) % 64 * 64 + at' s (i + 3) % 64 ≥ 65536) && Utf8.valid ((at' s i % 8 * 262144 + at' s (i + 1) % 64 * 4096 + at' s (i + 2) % 64 * 64 + at' s (i + 3) % 64 : Nat) : Int)) = true then (at' s i % 8 * 262144 + at' s (i + 1) % 64 * 4096 + at' s (i + 2) % 64 * 64 + at' s (i + 3) % 64, 4) else (Utf8.runeError, 1))
    else (Utf8.runeError, 1) := by
  rw [← cont_eq, ← cont_eq, ← cont_eq]
  rfl

/-- The rune at i and its width, as the reference reckons them, case by case. -/
theorem dec1 (s : ByteArray) (i : Nat) (h : at' s i < 128) : Utf8.decode s i = (at' s i, 1) := by
  rw [decode_eq, if_pos h]

theorem decBad (s : ByteArray) (i : Nat) (h : 128 ≤ at' s i) (h2 : at' s i < 192 ∨ 248 ≤ at' s i) : Utf8.decode s i = (65533, 1) := by
  rw [decode_eq, if_neg (by omega), if_neg, if_neg, if_neg]
  · rfl
  all_goals
    simp only [Bool.and_eq_true, beq_iff_eq]
    have := at_lt s i
    omega

theorem dec2 (s : ByteArray) (i : Nat) (h : 192 ≤ at' s i) (h2 : at' s i < 224) :
    Utf8.decode s i = if tl s (i + 1) = true ∧ 128 ≤ 64 * (at' s i - 192) + at' s (i + 1) - 128 then (64 * (at' s i - 192) + at' s (i + 1) - 128, 2) else (65533, 1) := by
  rw [decode_eq, if_neg (by omega)]
  have e6 : (at' s i / 32 == 6) = true := by simp; omega
  have e14 : (at' s i / 16 == 14) = false := by simp; omega
  have e30 : (at' s i / 8 == 30) = false := by simp; omega
  simp only [e6, e14, e30, Bool.true_and, Bool.false_and]
  by_cases ht : tl s (i + 1) = true
  · have := (tl_iff s (i + 1)).1 ht
    rw [if_pos ht]
    have e : at' s i % 32 * 64 + at' s (i + 1) % 64 = 64 * (at' s i - 192) + at' s (i + 1) - 128 := by omega
    rw [e]
    simp [ht, Utf8.runeError]
  · simp [ht, Utf8.runeError]

theorem dec3 (s : ByteArray) (i : Nat) (h : 224 ≤ at' s i) (h2 : at' s i < 240) :
    Utf8.decode s i = if (tl s (i + 1) = true ∧ tl s (i + 2) = true) ∧ (2048 ≤ 64 * (64 * (at' s i - 224) + at' s (i + 1) - 128) + at' s (i + 2) - 128 ∧ (64 * (64 * (at' s i - 224) + at' s (i + 1) - 128) + at' s (i + 2) - 128 < 55296 ∨ 57344 ≤ 64 * (64 * (at' s i - 224) + at' s (i + 1) - 128) + at' s (i + 2) - 128)) then (64 * (64 * (at' s i - 224) + at' s (i + 1) - 128) + at' s (i + 2) - 128, 3) else (65533, 1) := by
  rw [decode_eq, if_neg (by omega)]
  have e6 : (at' s i / 32 == 6) = false := by simp; omega
  have e14 : (at' s i / 16 == 14) = true := by simp; omega
  have e30 : (at' s i / 8 == 30) = false := by simp; omega
  simp only [e6, e14, e30, Bool.true_and, Bool.false_and]
  by_cases ht : tl s (i + 1) = true ∧ tl s (i + 2) = true
  · have h1 := (tl_iff s (i + 1)).1 ht.1
    have h2 := (tl_iff s (i + 2)).1 ht.2
    have e : at' s i % 16 * 4096 + at' s (i + 1) % 64 * 64 + at' s (i + 2) % 64 = 64 * (64 * (at' s i - 224) + at' s (i + 1) - 128) + at' s (i + 2) - 128 := by omega
    simp only [e, ht.1, ht.2, Bool.and_self, if_true]
    have hv : ∀ c : Nat, c ≤ 1114111 → ((decide (c ≥ 2048) && Utf8.valid (c : Int)) = true ↔ (2048 ≤ c ∧ (c < 55296 ∨ 57344 ≤ c))) := by
      intro c hc
      rw [Bool.and_eq_true, valid_iff]; simp; omega
    have hc : 64 * (64 * (at' s i - 224) + at' s (i + 1) - 128) + at' s (i + 2) - 128 ≤ 1114111 := by omega
    simp [hv _ hc, Utf8.runeError]
  · have : (tl s (i + 1) && tl s (i + 2)) = false := by
      rw [Bool.eq_false_iff]; simpa using ht
    simp [this, ht, Utf8.runeError]

theorem dec4 (s : ByteArray) (i : Nat) (h : 240 ≤ at' s i) (h2 : at' s i < 248) :
    Utf8.decode s i = if (tl s (i + 1) = true ∧ tl s (i + 2) = true ∧ tl s (i + 3) = true) ∧ (65536 ≤ 64 * (64 * (64 * (at' s i - 240) + at' s (i + 1) - 128) + at' s (i + 2) - 128) + at' s (i + 3) - 128 ∧ 64 * (64 * (64 * (at' s i - 240) + at' s (i + 1) - 128) + at' s (i + 2) - 128) + at' s (i + 3) - 128 ≤ 1114111) then (64 * (64 * (64 * (at' s i - 240) + at' s (i + 1) - 128) + at' s (i + 2) - 128) + at' s (i + 3) - 128, 4) else (65533, 1) := by
  rw [decode_eq, if_neg (by omega)]
  have e6 : (at' s i / 32 == 6) = false := by simp; omega
  have e14 : (at' s i / 16 == 14) = false := by simp; omega
  have e30 : (at' s i / 8 == 30) = true := by simp; omega
  simp only [e6, e14, e30, Bool.true_and, Bool.false_and]
  by_cases ht : tl s (i + 1) = true ∧ tl s (i + 2) = true ∧ tl s (i + 3) = true
  · have h1 := (tl_iff s (i + 1)).1 ht.1
    have h2 := (tl_iff s (i + 2)).1 ht.2.1
    have h3 := (tl_iff s (i + 3)).1 ht.2.2
    have e : at' s i % 8 * 262144 + at' s (i + 1) % 64 * 4096 + at' s (i + 2) % 64 * 64 + at' s (i + 3) % 64 = 64 * (64 * (64 * (at' s i - 240) + at' s (i + 1) - 128) + at' s (i + 2) - 128) + at' s (i + 3) - 128 := by omega
    simp only [e, ht.1, ht.2.1, ht.2.2, Bool.and_self, if_true]
    have hv : ∀ c : Nat, ((decide (c ≥ 65536) && Utf8.valid (c : Int)) = true ↔ (65536 ≤ c ∧ c ≤ 1114111)) := by
      intro c
      rw [Bool.and_eq_true, valid_iff]; simp; omega
    simp [hv, Utf8.runeError]
  · have : (tl s (i + 1) && tl s (i + 2) && tl s (i + 3)) = false := by
      rw [Bool.eq_false_iff]
      simp only [Bool.and_eq_true, ne_eq]
      intro h; exact ht ⟨h.1.1, h.1.2, h.2⟩
    simp [this, ht, Utf8.runeError]

/-- A unit's width: one to four bytes, all of them in the text. -/
theorem width (s : ByteArray) (i : Nat) (h : i < s.size) : 1 ≤ (Utf8.decode s i).2 ∧ i + (Utf8.decode s i).2 ≤ s.size := by
  by_cases h1 : at' s i < 128
  · rw [dec1 s i h1]; simp; omega
  by_cases h2 : at' s i < 192 ∨ 248 ≤ at' s i
  · rw [decBad s i (by omega) h2]; simp; omega
  by_cases h3 : at' s i < 224
  · rw [dec2 s i (by omega) h3]; split
    · rename_i hc; have := (tl_iff _ _).1 hc.1; simp; omega
    · simp; omega
  by_cases h4 : at' s i < 240
  · rw [dec3 s i (by omega) h4]; split
    · rename_i hc; have := (tl_iff _ _).1 hc.1.2; simp; omega
    · simp; omega
  · rw [dec4 s i (by omega) (by omega)]; split
    · rename_i hc; have := (tl_iff _ _).1 hc.1.2.2; simp; omega
    · simp; omega

theorem rune_le (s : ByteArray) (i : Nat) : (Utf8.decode s i).1 ≤ 1114111 := by
  by_cases h1 : at' s i < 128
  · rw [dec1 s i h1]; simp; omega
  by_cases h2 : at' s i < 192 ∨ 248 ≤ at' s i
  · rw [decBad s i (by omega) h2]; simp
  by_cases h3 : at' s i < 224
  · rw [dec2 s i (by omega) h3]; have := at_lt s (i + 1); split <;> simp; omega
  by_cases h4 : at' s i < 240
  · rw [dec3 s i (by omega) h4]; have := at_lt s (i + 1); have := at_lt s (i + 2); split <;> simp; omega
  · rw [dec4 s i (by omega) (by omega)]; split
    · rename_i hc; simp; omega
    · simp

/-- Units from a place on, with fuel. -/
def go (s : ByteArray) : Nat → Nat → List (Nat × Nat)
  | 0, _ => []
  | f + 1, p => if p < s.size then ((Utf8.decode s p).1, p) :: go s f (p + (Utf8.decode s p).2) else []

theorem go_more (s : ByteArray) : ∀ (f g p : Nat), s.size - p ≤ f → s.size - p ≤ g → go s f p = go s g p
  | 0, 0, _, _, _ => rfl
  | 0, g + 1, p, h, _ => by simp [go]; omega
  | f + 1, 0, p, _, h => by simp [go]; omega
  | f + 1, g + 1, p, hf, hg => by
    simp only [go]
    split
    · rename_i hp
      have := width s p hp
      rw [go_more s f g _ (by omega) (by omega)]
    · rfl

/-- The units from a place on: of each its rune and where it begins. -/
def rest (s : ByteArray) (p : Nat) : List (Nat × Nat) := go s s.size p

theorem rest_end (s : ByteArray) (p : Nat) (h : s.size ≤ p) : rest s p = [] := by
  unfold rest
  rw [go_more s s.size 0 p (by omega) (by omega)]; rfl

theorem rest_step (s : ByteArray) (p : Nat) (h : p < s.size) : rest s p = ((Utf8.decode s p).1, p) :: rest s (p + (Utf8.decode s p).2) := by
  unfold rest
  have := width s p h
  rw [go_more s s.size (s.size + 1) p (by omega) (by omega)]
  simp only [go, if_pos h]

theorem go_length (s : ByteArray) : ∀ (f p : Nat), (go s f p).length ≤ f
  | 0, _ => by simp [go]
  | f + 1, p => by
    simp only [go]; split
    · simp; exact go_length s f _
    · simp

theorem rest_length (s : ByteArray) (p : Nat) : (rest s p).length ≤ s.size := go_length s _ p

theorem go_runes (s : ByteArray) : ∀ (f p : Nat), ∀ x ∈ go s f p, x.1 ≤ 1114111 ∧ x.2 < s.size
  | 0, _, x, hx => by simp [go] at hx
  | f + 1, p, x, hx => by
    simp only [go] at hx
    split at hx
    · rename_i hp
      rcases List.mem_cons.1 hx with rfl | h
      · exact ⟨rune_le s p, hp⟩
      · exact go_runes s f _ x h
    · simp at hx

/-- The units of a text. -/
def units (s : ByteArray) : List (Nat × Nat) := rest s 0

theorem units_length (s : ByteArray) : (units s).length ≤ s.size := rest_length s 0
theorem units_bound (s : ByteArray) : ∀ x ∈ units s, x.1 ≤ 1114111 ∧ x.2 < s.size := go_runes s _ 0

/-- What has been found so far, and where one stands. -/
def Upto (s : ByteArray) (p : Nat) (l : List (Nat × Nat)) : Prop := p ≤ s.size ∧ l ++ rest s p = units s

theorem Upto.zero (s : ByteArray) : Upto s 0 [] := ⟨Nat.zero_le _, rfl⟩

theorem Upto.step {s : ByteArray} {p : Nat} {l : List (Nat × Nat)} (h : Upto s p l) (hp : p < s.size) : Upto s (p + (Utf8.decode s p).2) (l ++ [((Utf8.decode s p).1, p)]) := by
  refine ⟨(width s p hp).2, ?_⟩
  rw [List.append_assoc, ← h.2, rest_step s p hp]; rfl

theorem Upto.done {s : ByteArray} {p : Nat} {l : List (Nat × Nat)} (h : Upto s p l) (hp : s.size ≤ p) : l = units s := by
  rw [← h.2, rest_end s p hp, List.append_nil]

theorem Upto.length {s : ByteArray} {p : Nat} {l : List (Nat × Nat)} (h : Upto s p l) : l.length ≤ s.size := by
  have := units_length s
  rw [← h.2, List.length_append] at this; omega

/-- The runes, the beginnings: as values. -/
def runes32 (l : List (Nat × Nat)) : List Value := l.map fun x => .int .i32 x.1
def runes64 (l : List (Nat × Nat)) : List Value := l.map fun x => .int .i64 x.1
def starts64 (l : List (Nat × Nat)) : List Value := l.map fun x => .int .i64 x.2

end U
end Go.Proofs.Ytpgcidpghmoibaa
