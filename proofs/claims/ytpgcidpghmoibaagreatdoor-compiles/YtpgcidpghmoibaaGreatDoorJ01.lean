/-
  PLAIN FACTS ON TEXTS, without the program: the units of a text as the model's own decoder finds them, one behind the other; nothing is claimed of the program here. No condition.
  THE FORM OF RULES, without the program: what the document's section on the form says of a source's bytes, as plain functions (what lies between parts, names, chars) and as one relation between a place, the table of nodes made so far and what is read there (a node and where it ends, or the first error and its place). Nothing of the program is run here. No condition.
  THE FORM OF RULES, without the program: what is read lies in the source, the table of nodes stays well made and has at most four nodes a byte. Nothing of the program is run here. Conditions stand at each fact.
  THE FORM OF RULES, without the program: the places of a node, one behind the other; is a number in a place's set; how many places there are. Nothing of the program is run here. Conditions stand at each fact.
  SETS OF RUNES, without the program: ranges that are put in order and made one where they touch have the same numbers as before, and a number is found in them by the first range that does not end ahead of it. Nothing of the program is run here. Conditions stand at each fact.
  A LAW ON append, of whatever program: onto a row that is owned: either the row itself grows within its room, or the elements lie in a block that is new and nothing that was there has turned. Conditions: those of the kit's own law on append; at least one element is appended.
-/
import Derived.Laws.RangeAny
import Derived.Maps.AppendAt
import Derived.ArgAppend
namespace Go.Proofs.YtpgcidpghmoibaaGreatDoor
namespace U

/-- The byte at a place, as a number. -/
def at' (s : ByteArray) (i : Nat) : Nat := (s.get! i).toNat

theorem at_get (s : ByteArray) (i : Nat) (h : i < s.size) : (s[i]'h).toNat = at' s i := by
  have := get_at s i h
  unfold at'
  rw [← this]; rfl

theorem at_lt (s : ByteArray) (i : Nat) : at' s i < 256 := (s.get! i).toNat_lt

/-- A later byte of a rune stands at i. -/
def tl (s : ByteArray) (i : Nat) : Bool := decide (i < s.size) && decide (128 ≤ at' s i) && decide (at' s i < 192)

theorem tl_iff (s : ByteArray) (i : Nat) : tl s i = true ↔ i < s.size ∧ 128 ≤ at' s i ∧ at' s i < 192 := by
  simp [tl, and_assoc]

theorem cont_eq (s : ByteArray) (i k : Nat) : (decide (i + k < s.size) && (s.get! (i + k)).toNat / 64 == 2) = tl s (i + k) := by
  rw [Bool.eq_iff_iff, tl_iff]
  have := at_lt s (i + k)
  simp only [at'] at *
  simp
  omega

theorem valid_iff (c : Nat) : Utf8.valid (c : Int) = true ↔ (c < 55296 ∨ (57344 ≤ c ∧ c ≤ 1114111)) := by
  simp [Utf8.valid]; omega

/-- The model's decoder, its tests in our words. -/
theorem decode_eq (s : ByteArray) (i : Nat) : Utf8.decode s i =
    if at' s i < 128 then (at' s i, 1)
    else if (at' s i / 32 == 6 && tl s (i + 1)) = true then (if at' s i % 32 * 64 + at' s (i + 1) % 64 ≥ 128 then (at' s i % 32 * 64 + at' s (i + 1) % 64, 2) else (Utf8.runeError, 1))
    else if (at' s i / 16 == 14 && tl s (i + 1) && tl s (i + 2)) = true then (if (decide (at' s i % 16 * 4096 + at' s (i + 1) % 64 * 64 + at' s (i + 2) % 64 ≥ 2048) && Utf8.valid ((at' s i % 16 * 4096 + at' s (i + 1) % 64 * 64 + at' s (i + 2) % 64 : Nat) : Int)) = true then (at' s i % 16 * 4096 + at' s (i + 1) % 64 * 64 + at' s (i + 2) % 64, 3) else (Utf8.runeError, 1))
    else if (at' s i / 8 == 30 && tl s (i + 1) && tl s (i + 2) && tl s (i + 3)) = true then (if (decide (at' s i % 8 * 262144 + at' s (i + 1) % 64 * 4096 + at' s (i + 2) % 64 * 64 + at' s (i + 3) % 64 ≥ 65536) && Utf8.valid ((at' s i % 8 * 262144 + at' s (i + 1) % 64 * 4096 + at' s (i + 2) % 64 * 64 + at' s (i + 3) % 64 : Nat) : Int)) = true then (at' s i % 8 * 262144 + at' s (i + 1) % 64 * 4096 + at' s (i + 2) % 64 * 64 + at' s (i + 3) % 64, 4) else (Utf8.runeError, 1))
    else (Utf8.runeError, 1) := by
  rw [← cont_eq, ← cont_eq, ← cont_eq]
  rfl

/-- The rune at i and its width, as the reference reckons them, case by case. -/
theorem dec1 (s : ByteArray) (i : Nat) (h : at' s i < 128) : Utf8.decode s i = (at' s i, 1) := by
  rw [decode_eq, if_pos h]

theorem decBad (s : ByteArray) (i : Nat) (h : 128 ≤ at' s i) (h2 : at' s i < 192 ∨ 248 ≤ at' s i) : Utf8.decode s i = (65533, 1) := by
  rw [decode_eq, if_neg (by omega), if_neg, if_neg, if_neg]
  · rfl
  all_goals
    simp only [Bool.and_eq_true, beq_iff_eq]
    have := at_lt s i
    omega

theorem dec2 (s : ByteArray) (i : Nat) (h : 192 ≤ at' s i) (h2 : at' s i < 224) :
    Utf8.decode s i = if tl s (i + 1) = true ∧ 128 ≤ 64 * (at' s i - 192) + at' s (i + 1) - 128 then (64 * (at' s i - 192) + at' s (i + 1) - 128, 2) else (65533, 1) := by
  rw [decode_eq, if_neg (by omega)]
  have e6 : (at' s i / 32 == 6) = true := by simp; omega
  have e14 : (at' s i / 16 == 14) = false := by simp; omega
  have e30 : (at' s i / 8 == 30) = false := by simp; omega
  simp only [e6, e14, e30, Bool.true_and, Bool.false_and]
  by_cases ht : tl s (i + 1) = true
  · have := (tl_iff s (i + 1)).1 ht
    rw [if_pos ht]
    have e : at' s i % 32 * 64 + at' s (i + 1) % 64 = 64 * (at' s i - 192) + at' s (i + 1) - 128 := by omega
    rw [e]
    simp [ht, Utf8.runeError]
  · simp [ht, Utf8.runeError]

theorem dec3 (s : ByteArray) (i : Nat) (h : 224 ≤ at' s i) (h2 : at' s i < 240) :
    Utf8.decode s i = if (tl s (i + 1) = true ∧ tl s (i + 2) = true) ∧ (2048 ≤ 64 * (64 * (at' s i - 224) + at' s (i + 1) - 128) + at' s (i + 2) - 128 ∧ (64 * (64 * (at' s i - 224) + at' s (i + 1) - 128) + at' s (i + 2) - 128 < 55296 ∨ 57344 ≤ 64 * (64 * (at' s i - 224) + at' s (i + 1) - 128) + at' s (i + 2) - 128)) then (64 * (64 * (at' s i - 224) + at' s (i + 1) - 128) + at' s (i + 2) - 128, 3) else (65533, 1) := by
  rw [decode_eq, if_neg (by omega)]
  have e6 : (at' s i / 32 == 6) = false := by simp; omega
  have e14 : (at' s i / 16 == 14) = true := by simp; omega
  have e30 : (at' s i / 8 == 30) = false := by simp; omega
  simp only [e6, e14, e30, Bool.true_and, Bool.false_and]
  by_cases ht : tl s (i + 1) = true ∧ tl s (i + 2) = true
  · have h1 := (tl_iff s (i + 1)).1 ht.1
    have h2 := (tl_iff s (i + 2)).1 ht.2
    have e : at' s i % 16 * 4096 + at' s (i + 1) % 64 * 64 + at' s (i + 2) % 64 = 64 * (64 * (at' s i - 224) + at' s (i + 1) - 128) + at' s (i + 2) - 128 := by omega
    simp only [e, ht.1, ht.2, Bool.and_self, if_true]
    have hv : ∀ c : Nat, c ≤ 1114111 → ((decide (c ≥ 2048) && Utf8.valid (c : Int)) = true ↔ (2048 ≤ c ∧ (c < 55296 ∨ 57344 ≤ c))) := by
      intro c hc
      rw [Bool.and_eq_true, valid_iff]; simp; omega
    have hc : 64 * (64 * (at' s i - 224) + at' s (i + 1) - 128) + at' s (i + 2) - 128 ≤ 1114111 := by omega
    simp [hv _ hc, Utf8.runeError]
  · have : (tl s (i + 1) && tl s (i + 2)) = false := by
      rw [Bool.eq_false_iff]; simpa using ht
    simp [this, ht, Utf8.runeError]

theorem dec4 (s : ByteArray) (i : Nat) (h : 240 ≤ at' s i) (h2 : at' s i < 248) :
    Utf8.decode s i = if (tl s (i + 1) = true ∧ tl s (i + 2) = true ∧ tl s (i + 3) = true) ∧ (65536 ≤ 64 * (64 * (64 * (at' s i - 240) + at' s (i + 1) - 128) + at' s (i + 2) - 128) + at' s (i + 3) - 128 ∧ 64 * (64 * (64 * (at' s i - 240) + at' s (i + 1) - 128) + at' s (i + 2) - 128) + at' s (i + 3) - 128 ≤ 1114111) then (64 * (64 * (64 * (at' s i - 240) + at' s (i + 1) - 128) + at' s (i + 2) - 128) + at' s (i + 3) - 128, 4) else (65533, 1) := by
  rw [decode_eq, if_neg (by omega)]
  have e6 : (at' s i / 32 == 6) = false := by simp; omega
  have e14 : (at' s i / 16 == 14) = false := by simp; omega
  have e30 : (at' s i / 8 == 30) = true := by simp; omega
  simp only [e6, e14, e30, Bool.true_and, Bool.false_and]
  by_cases ht : tl s (i + 1) = true ∧ tl s (i + 2) = true ∧ tl s (i + 3) = true
  · have h1 := (tl_iff s (i + 1)).1 ht.1
    have h2 := (tl_iff s (i + 2)).1 ht.2.1
    have h3 := (tl_iff s (i + 3)).1 ht.2.2
    have e : at' s i % 8 * 262144 + at' s (i + 1) % 64 * 4096 + at' s (i + 2) % 64 * 64 + at' s (i + 3) % 64 = 64 * (64 * (64 * (at' s i - 240) + at' s (i + 1) - 128) + at' s (i + 2) - 128) + at' s (i + 3) - 128 := by omega
    simp only [e, ht.1, ht.2.1, ht.2.2, Bool.and_self, if_true]
    have hv : ∀ c : Nat, ((decide (c ≥ 65536) && Utf8.valid (c : Int)) = true ↔ (65536 ≤ c ∧ c ≤ 1114111)) := by
      intro c
      rw [Bool.and_eq_true, valid_iff]; simp; omega
    simp [hv, Utf8.runeError]
  · have : (tl s (i + 1) && tl s (i + 2) && tl s (i + 3)) = false := by
      rw [Bool.eq_false_iff]
      simp only [Bool.and_eq_true, ne_eq]
      intro h; exact ht ⟨h.1.1, h.1.2, h.2⟩
    simp [this, ht, Utf8.runeError]

/-- A unit's width: one to four bytes, all of them in the text. -/
theorem width (s : ByteArray) (i : Nat) (h : i < s.size) : 1 ≤ (Utf8.decode s i).2 ∧ i + (Utf8.decode s i).2 ≤ s.size := by
  by_cases h1 : at' s i < 128
  · rw [dec1 s i h1]; simp; omega
  by_cases h2 : at' s i < 192 ∨ 248 ≤ at' s i
  · rw [decBad s i (by omega) h2]; simp; omega
  by_cases h3 : at' s i < 224
  · rw [dec2 s i (by omega) h3]; split
    · rename_i hc; have := (tl_iff _ _).1 hc.1; simp; omega
    · simp; omega
  by_cases h4 : at' s i < 240
  · rw [dec3 s i (by omega) h4]; split
    · rename_i hc; have := (tl_iff _ _).1 hc.1.2; simp; omega
    · simp; omega
  · rw [dec4 s i (by omega) (by omega)]; split
    · rename_i hc; have := (tl_iff _ _).1 hc.1.2.2; simp; omega
    · simp; omega

theorem rune_le (s : ByteArray) (i : Nat) : (Utf8.decode s i).1 ≤ 1114111 := by
  by_cases h1 : at' s i < 128
  · rw [dec1 s i h1]; simp; omega
  by_cases h2 : at' s i < 192 ∨ 248 ≤ at' s i
  · rw [decBad s i (by omega) h2]; simp
  by_cases h3 : at' s i < 224
  · rw [dec2 s i (by omega) h3]; have := at_lt s (i + 1); split <;> simp; omega
  by_cases h4 : at' s i < 240
  · rw [dec3 s i (by omega) h4]; have := at_lt s (i + 1); have := at_lt s (i + 2); split <;> simp; omega
  · rw [dec4 s i (by omega) (by omega)]; split
    · rename_i hc; simp; omega
    · simp

/-- Units from a place on, with fuel. -/
def go (s : ByteArray) : Nat → Nat → List (Nat × Nat)
  | 0, _ => []
  | f + 1, p => if p < s.size then ((Utf8.decode s p).1, p) :: go s f (p + (Utf8.decode s p).2) else []

theorem go_more (s : ByteArray) : ∀ (f g p : Nat), s.size - p ≤ f → s.size - p ≤ g → go s f p = go s g p
  | 0, 0, _, _, _ => rfl
  | 0, g + 1, p, h, _ => by simp [go]; omega
  | f + 1, 0, p, _, h => by simp [go]; omega
  | f + 1, g + 1, p, hf, hg => by
    simp only [go]
    split
    · rename_i hp
      have := width s p hp
      rw [go_more s f g _ (by omega) (by omega)]
    · rfl

/-- The units from a place on: of each its rune and where it begins. -/
def rest (s : ByteArray) (p : Nat) : List (Nat × Nat) := go s s.size p

theorem rest_end (s : ByteArray) (p : Nat) (h : s.size ≤ p) : rest s p = [] := by
  unfold rest
  rw [go_more s s.size 0 p (by omega) (by omega)]; rfl

theorem rest_step (s : ByteArray) (p : Nat) (h : p < s.size) : rest s p = ((Utf8.decode s p).1, p) :: rest s (p + (Utf8.decode s p).2) := by
  unfold rest
  have := width s p h
  rw [go_more s s.size (s.size + 1) p (by omega) (by omega)]
  simp only [go, if_pos h]

theorem go_length (s : ByteArray) : ∀ (f p : Nat), (go s f p).length ≤ f
  | 0, _ => by simp [go]
  | f + 1, p => by
    simp only [go]; split
    · simp; exact go_length s f _
    · simp

theorem rest_length (s : ByteArray) (p : Nat) : (rest s p).length ≤ s.size := go_length s _ p

theorem go_runes (s : ByteArray) : ∀ (f p : Nat), ∀ x ∈ go s f p, x.1 ≤ 1114111 ∧ x.2 < s.size
  | 0, _, x, hx => by simp [go] at hx
  | f + 1, p, x, hx => by
    simp only [go] at hx
    split at hx
    · rename_i hp
      rcases List.mem_cons.1 hx with rfl | h
      · exact ⟨rune_le s p, hp⟩
      · exact go_runes s f _ x h
    · simp at hx

/-- The units of a text. -/
def units (s : ByteArray) : List (Nat × Nat) := rest s 0

theorem units_length (s : ByteArray) : (units s).length ≤ s.size := rest_length s 0
theorem units_bound (s : ByteArray) : ∀ x ∈ units s, x.1 ≤ 1114111 ∧ x.2 < s.size := go_runes s _ 0

/-- What has been found so far, and where one stands. -/
def Upto (s : ByteArray) (p : Nat) (l : List (Nat × Nat)) : Prop := p ≤ s.size ∧ l ++ rest s p = units s

theorem Upto.zero (s : ByteArray) : Upto s 0 [] := ⟨Nat.zero_le _, rfl⟩

theorem Upto.step {s : ByteArray} {p : Nat} {l : List (Nat × Nat)} (h : Upto s p l) (hp : p < s.size) : Upto s (p + (Utf8.decode s p).2) (l ++ [((Utf8.decode s p).1, p)]) := by
  refine ⟨(width s p hp).2, ?_⟩
  rw [List.append_assoc, ← h.2, rest_step s p hp]; rfl

theorem Upto.done {s : ByteArray} {p : Nat} {l : List (Nat × Nat)} (h : Upto s p l) (hp : s.size ≤ p) : l = units s := by
  rw [← h.2, rest_end s p hp, List.append_nil]

theorem Upto.length {s : ByteArray} {p : Nat} {l : List (Nat × Nat)} (h : Upto s p l) : l.length ≤ s.size := by
  have := units_length s
  rw [← h.2, List.length_append] at this; omega

/-- The runes, the beginnings: as values. -/
def runes32 (l : List (Nat × Nat)) : List Value := l.map fun x => .int .i32 x.1
def runes64 (l : List (Nat × Nat)) : List Value := l.map fun x => .int .i64 x.1
def starts64 (l : List (Nat × Nat)) : List Value := l.map fun x => .int .i64 x.2

end U
end Go.Proofs.YtpgcidpghmoibaaGreatDoor

namespace Go.Proofs.YtpgcidpghmoibaaGreatDoor
namespace G

/-- The byte at a place, as a number; -1 behind the end. -/
def pk (s : ByteArray) (i : Nat) : Int := if i < s.size then (U.at' s i : Int) else -1
theorem pk_lt {s : ByteArray} {i : Nat} (h : i < s.size) : pk s i = (U.at' s i : Int) := by simp [pk, h]
theorem pk_ge {s : ByteArray} {i : Nat} (h : ¬ i < s.size) : pk s i = -1 := by simp [pk, h]
theorem pk_bd (s : ByteArray) (i : Nat) : -1 ≤ pk s i ∧ pk s i < 256 := by
  unfold pk
  have := U.at_lt s i
  split <;> omega
theorem lt_of_pk {s : ByteArray} {i : Nat} (h : 0 ≤ pk s i) : i < s.size := by
  unfold pk at h
  split at h
  · assumption
  · omega

/-- Where a comment ends. -/
def com (s : ByteArray) (i : Nat) : Nat := if i < s.size ∧ U.at' s i ≠ 10 then com s (i + 1) else i
termination_by s.size - i
theorem com_step {s : ByteArray} {i : Nat} (h : i < s.size) (h2 : U.at' s i ≠ 10) : com s i = com s (i + 1) := by
  rw [com, if_pos ⟨h, h2⟩]
theorem com_end {s : ByteArray} {i : Nat} (h : ¬ (i < s.size ∧ U.at' s i ≠ 10)) : com s i = i := by
  rw [com, if_neg h]
theorem com_ge (s : ByteArray) : ∀ (n i : Nat), s.size - i ≤ n → i ≤ com s i
  | 0, i, h => by rw [com_end (by omega)]; omega
  | n + 1, i, h => by
    by_cases hc : i < s.size ∧ U.at' s i ≠ 10
    · rw [com_step hc.1 hc.2]; have := com_ge s n (i + 1) (by omega); omega
    · rw [com_end hc]; omega
theorem com_le (s : ByteArray) : ∀ (n i : Nat), s.size - i ≤ n → i ≤ s.size → com s i ≤ s.size
  | 0, i, h, hi => by rw [com_end (by omega)]; omega
  | n + 1, i, h, hi => by
    by_cases hc : i < s.size ∧ U.at' s i ≠ 10
    · rw [com_step hc.1 hc.2]; exact com_le s n (i + 1) (by omega) (by omega)
    · rw [com_end hc]; omega

/-- Where the next part begins. -/
def skip (s : ByteArray) (i : Nat) : Nat :=
  if pk s i = 35 then skip s (com s (i + 1))
  else if pk s i = 32 ∨ pk s i = 9 ∨ pk s i = 10 then skip s (i + 1)
  else i
termination_by s.size - i
decreasing_by
  · have := lt_of_pk (s := s) (i := i) (by omega); have := com_ge s _ (i + 1) (Nat.le_refl _); omega
  · have := lt_of_pk (s := s) (i := i) (by omega); omega
theorem skip_com {s : ByteArray} {i : Nat} (h : pk s i = 35) : skip s i = skip s (com s i) := by
  rw [skip, if_pos h]
  have hl := lt_of_pk (s := s) (i := i) (by omega)
  rw [pk_lt hl] at h
  rw [com_step hl (by omega)]
theorem skip_blank {s : ByteArray} {i : Nat} (h : pk s i = 32 ∨ pk s i = 9 ∨ pk s i = 10) : skip s i = skip s (i + 1) := by
  rw [skip, if_neg (by omega), if_pos h]
theorem skip_end {s : ByteArray} {i : Nat} (h0 : pk s i ≠ 35) (h : ¬ (pk s i = 32 ∨ pk s i = 9 ∨ pk s i = 10)) : skip s i = i := by
  rw [skip, if_neg h0, if_neg h]
theorem skip_bd (s : ByteArray) : ∀ (n i : Nat), s.size - i ≤ n → i ≤ skip s i ∧ (i ≤ s.size → skip s i ≤ s.size) ∧ pk s (skip s i) ≠ 35 ∧ ¬ (pk s (skip s i) = 32 ∨ pk s (skip s i) = 9 ∨ pk s (skip s i) = 10)
  | 0, i, h => by
    have e : skip s i = i := skip_end (by rw [pk_ge (by omega)]; omega) (by rw [pk_ge (by omega)]; omega)
    rw [e]
    exact ⟨Nat.le_refl _, fun h => h, by rw [pk_ge (by omega)]; omega, by rw [pk_ge (by omega)]; omega⟩
  | n + 1, i, h => by
    by_cases h35 : pk s i = 35
    · have hl := lt_of_pk (s := s) (i := i) (by omega)
      have h10 : U.at' s i ≠ 10 := by rw [pk_lt hl] at h35; omega
      have g1 := com_ge s _ (i + 1) (Nat.le_refl _)
      have g2 := com_le s _ (i + 1) (Nat.le_refl _)
      have ih := skip_bd s n (com s (i + 1)) (by omega)
      rw [skip_com h35, com_step hl h10]
      exact ⟨by omega, fun _ => ih.2.1 (g2 (by omega)), ih.2.2⟩
    · by_cases hb : pk s i = 32 ∨ pk s i = 9 ∨ pk s i = 10
      · have hl := lt_of_pk (s := s) (i := i) (by omega)
        have ih := skip_bd s n (i + 1) (by omega)
        rw [skip_blank hb]
        exact ⟨by omega, fun _ => ih.2.1 (by omega), ih.2.2⟩
      · rw [skip_end h35 hb]
        exact ⟨Nat.le_refl _, fun h => h, h35, hb⟩
theorem skip_ge (s : ByteArray) (i : Nat) : i ≤ skip s i := (skip_bd s _ i (Nat.le_refl _)).1
theorem skip_le (s : ByteArray) (i : Nat) (h : i ≤ s.size) : skip s i ≤ s.size := (skip_bd s _ i (Nat.le_refl _)).2.1 h
theorem skip_skip (s : ByteArray) (i : Nat) : skip s (skip s i) = skip s i :=
  skip_end (skip_bd s _ i (Nat.le_refl _)).2.2.1 (skip_bd s _ i (Nat.le_refl _)).2.2.2

/-- Is a small letter there? -/
def low (s : ByteArray) (i : Nat) : Bool := decide (i < s.size) && decide (97 ≤ U.at' s i) && decide (U.at' s i ≤ 122)
theorem low_iff (s : ByteArray) (i : Nat) : low s i = true ↔ i < s.size ∧ 97 ≤ U.at' s i ∧ U.at' s i ≤ 122 := by simp [low, and_assoc]
/-- Where a name ends. -/
def wend (s : ByteArray) (i : Nat) : Nat := if low s i = true then wend s (i + 1) else i
termination_by s.size - i
decreasing_by rename_i h; have := (low_iff s i).1 h; omega
theorem wend_step {s : ByteArray} {i : Nat} (h : low s i = true) : wend s i = wend s (i + 1) := by rw [wend, if_pos h]
theorem wend_end {s : ByteArray} {i : Nat} (h : ¬ low s i = true) : wend s i = i := by rw [wend, if_neg h]
theorem wend_bd (s : ByteArray) : ∀ (n i : Nat), s.size - i ≤ n → i ≤ wend s i ∧ (i ≤ s.size → wend s i ≤ s.size)
  | 0, i, h => by
    rw [wend_end (by rw [low_iff]; omega)]; omega
  | n + 1, i, h => by
    by_cases hl : low s i = true
    · have := (low_iff s i).1 hl
      have ih := wend_bd s n (i + 1) (by omega)
      rw [wend_step hl]
      exact ⟨by omega, fun _ => ih.2 (by omega)⟩
    · rw [wend_end hl]; exact ⟨Nat.le_refl _, fun h => h⟩
theorem wend_ge (s : ByteArray) (i : Nat) : i ≤ wend s i := (wend_bd s _ i (Nat.le_refl _)).1
theorem wend_le (s : ByteArray) (i : Nat) (h : i ≤ s.size) : wend s i ≤ s.size := (wend_bd s _ i (Nat.le_refl _)).2 h

/-- A digit's number; above 15: it is none. -/
def dig (c : Nat) : Nat := if 48 ≤ c ∧ c ≤ 57 then c - 48 else if 97 ≤ c ∧ c ≤ 102 then c - 87 else if 65 ≤ c ∧ c ≤ 70 then c - 55 else 16
/-- Four digits there? -/
def hexs (s : ByteArray) (i : Nat) : Bool := decide (dig (U.at' s i) < 16) && decide (dig (U.at' s (i + 1)) < 16) && decide (dig (U.at' s (i + 2)) < 16) && decide (dig (U.at' s (i + 3)) < 16)
def hexv (s : ByteArray) (i : Nat) : Nat := 4096 * dig (U.at' s i) + 256 * dig (U.at' s (i + 1)) + 16 * dig (U.at' s (i + 2)) + dig (U.at' s (i + 3))

/-- Is it one of the signs that stand for themselves behind a backslash? -/
def self (c : Int) : Bool := decide (c = 39 ∨ c = 92 ∨ c = 91 ∨ c = 93 ∨ c = 45 ∨ c = 94)
/-- An escape whose backslash stands at i: the rune and where it ends. -/
def esc (s : ByteArray) (i : Nat) : Option (Nat × Nat) :=
  if self (pk s (i + 1)) = true then some ((pk s (i + 1)).toNat, i + 2)
  else if pk s (i + 1) = 110 then some (10, i + 2)
  else if pk s (i + 1) = 116 then some (9, i + 2)
  else if pk s (i + 1) = 117 ∧ i + 6 ≤ s.size ∧ hexs s (i + 2) = true ∧ (hexv s (i + 2) < 55296 ∨ 57344 ≤ hexv s (i + 2)) then some (hexv s (i + 2), i + 6)
  else none

/-- Is a rune written well there? -/
def well (s : ByteArray) (i : Nat) : Bool := if U.at' s i < 128 then true else if U.at' s i < 192 ∨ 248 ≤ U.at' s i then false else decide ((Utf8.decode s i).2 ≠ 1)
/-- A char that is neither a nor b: the rune and where it ends. -/
def chr (s : ByteArray) (a b : Int) (i : Nat) : Option (Nat × Nat) :=
  if pk s i < 0 ∨ pk s i = a ∨ pk s i = b then none
  else if pk s i = 92 then esc s i
  else if well s i = true then some ((Utf8.decode s i).1, i + (Utf8.decode s i).2)
  else none

theorem dig_le (c : Nat) : dig c ≤ 16 := by
  unfold dig
  split
  · omega
  · split
    · omega
    · split <;> omega
theorem hexv_le (s : ByteArray) (i : Nat) (h : hexs s i = true) : hexv s i ≤ 65535 := by
  simp [hexs] at h
  unfold hexv
  omega
theorem esc_bd {s : ByteArray} {i x j : Nat} (h : esc s i = some (x, j)) : i < j ∧ j ≤ s.size ∧ x ≤ 1114111 := by
  unfold esc at h
  split at h
  · rename_i hs
    have h0 : 0 ≤ pk s (i + 1) := by simp [self] at hs; omega
    have := lt_of_pk h0
    have hb := pk_bd s (i + 1)
    simp at h; omega
  · split at h
    · have := lt_of_pk (s := s) (i := i + 1) (by omega)
      simp at h; omega
    · split at h
      · have := lt_of_pk (s := s) (i := i + 1) (by omega)
        simp at h; omega
      · split at h
        · rename_i hc
          have := hexv_le s (i + 2) hc.2.2.1
          simp at h; omega
        · cases h
theorem chr_bd {s : ByteArray} {a b : Int} {i x j : Nat} (h : chr s a b i = some (x, j)) : i < j ∧ j ≤ s.size ∧ x ≤ 1114111 := by
  unfold chr at h
  split at h
  · cases h
  · rename_i h0
    have hl := lt_of_pk (s := s) (i := i) (by omega)
    split at h
    · exact esc_bd h
    · split at h
      · have := U.width s i hl
        have := U.rune_le s i
        simp at h; omega
      · cases h

/-- A node of the table: its kind, its ranges (and: all others), its parts, how many places it has, up to 101. -/
structure PNode where
  kind : Nat
  ranges : List (Nat × Nat)
  other : Bool
  parts : List Nat
  size : Nat

def sz (T : List PNode) (p : Nat) : Nat := match T[p]? with | some x => x.size | none => 0
theorem sz_eq {T : List PNode} {p : Nat} {x : PNode} (h : T[p]? = some x) : sz T p = x.size := by simp [sz, h]
def sizeOf (T : List PNode) (ps : List Nat) : Nat := (ps.map (sz T)).sum
def mk (T : List PNode) (k : Nat) (rs : List (Nat × Nat)) (o : Bool) (ps : List Nat) : PNode := ⟨k, rs, o, ps, min ((if k = 115 then 1 else 0) + sizeOf T ps) 101⟩

/-- What is read: a node, where it ends, the table; or an error and its place. -/
inductive Res where
  | ok (n j : Nat) (T : List PNode)
  | err (e p : Nat)

inductive NT where
  | quote (ps : List Nat)
  | set (o : Bool) (rs : List (Nat × Nat))
  | atom
  | seq (ps : List Nat)
  | expr (ps : List Nat)

def atomic (c : Int) : Bool := decide (c = 40 ∨ c = 46 ∨ c = 36 ∨ c = 39 ∨ c = 91)
def repeats (c : Int) : Bool := decide (c = 42 ∨ c = 43 ∨ c = 63)

def name (s : ByteArray) (i : Nat) : ByteArray := s.extract (i + 1) (wend s (i + 1))
def lookup (E : List (ByteArray × Nat)) (n : ByteArray) : Option Nat := (E.find? fun x => decide (x.1 = n)).map (·.2)

/-- What stands at a place. -/
inductive R (s : ByteArray) (E : List (ByteArray × Nat)) : NT → Nat → Nat → List PNode → Res → Prop
  | quoteErr {ps d i T} : chr s 39 39 i = none → R s E (.quote ps) d i T (.err 2 i)
  | quoteEnd {ps d i T x j} : chr s 39 39 i = some (x, j) → pk s j = 39 → R s E (.quote ps) d i T (.ok (T.length + 1) (j + 1) (T ++ [mk T 115 [(x, x)] false []] ++ [mk (T ++ [mk T 115 [(x, x)] false []]) 113 [] false (ps ++ [T.length])]))
  | quoteMore {ps d i T x j r} : chr s 39 39 i = some (x, j) → pk s j ≠ 39 → R s E (.quote (ps ++ [T.length])) d j (T ++ [mk T 115 [(x, x)] false []]) r → R s E (.quote ps) d i T r
  | setEnd {o rs d i T} : pk s i = 93 → R s E (.set o rs) d i T (.ok T.length (i + 1) (T ++ [mk T 115 rs o []]))
  | setErr {o rs d i T} : pk s i ≠ 93 → chr s 93 45 i = none → R s E (.set o rs) d i T (.err 2 i)
  | setOne {o rs d i T a j r} : pk s i ≠ 93 → chr s 93 45 i = some (a, j) → pk s j ≠ 45 → R s E (.set o (rs ++ [(a, a)])) d j T r → R s E (.set o rs) d i T r
  | setErr2 {o rs d i T a j} : pk s i ≠ 93 → chr s 93 45 i = some (a, j) → pk s j = 45 → chr s 93 45 (j + 1) = none → R s E (.set o rs) d i T (.err 2 (j + 1))
  | setErr3 {o rs d i T a j b k} : pk s i ≠ 93 → chr s 93 45 i = some (a, j) → pk s j = 45 → chr s 93 45 (j + 1) = some (b, k) → b < a → R s E (.set o rs) d i T (.err 4 i)
  | setTwo {o rs d i T a j b k r} : pk s i ≠ 93 → chr s 93 45 i = some (a, j) → pk s j = 45 → chr s 93 45 (j + 1) = some (b, k) → a ≤ b → R s E (.set o (rs ++ [(a, b)])) d k T r → R s E (.set o rs) d i T r
  | deep {d i T} : pk s i = 40 → d = 40 → R s E .atom d i T (.err 5 i)
  | parenErr {d i T e p} : pk s i = 40 → d ≠ 40 → R s E (.expr []) (d + 1) (i + 1) T (.err e p) → R s E .atom d i T (.err e p)
  | parenForm {d i T n j T'} : pk s i = 40 → d ≠ 40 → R s E (.expr []) (d + 1) (i + 1) T (.ok n j T') → pk s (skip s j) ≠ 41 → R s E .atom d i T (.err 2 (skip s j))
  | paren {d i T n j T'} : pk s i = 40 → d ≠ 40 → R s E (.expr []) (d + 1) (i + 1) T (.ok n j T') → pk s (skip s j) = 41 → R s E .atom d i T (.ok n (skip s j + 1) T')
  | dot {d i T} : pk s i = 46 → R s E .atom d i T (.ok T.length (i + 1) (T ++ [mk T 115 [] true []]))
  | nameForm {d i T} : pk s i = 36 → wend s (i + 1) = i + 1 → R s E .atom d i T (.err 2 i)
  | nameErr {d i T} : pk s i = 36 → wend s (i + 1) ≠ i + 1 → lookup E (name s i) = none → R s E .atom d i T (.err 3 i)
  | name {d i T n} : pk s i = 36 → wend s (i + 1) ≠ i + 1 → lookup E (name s i) = some n → R s E .atom d i T (.ok n (wend s (i + 1)) T)
  | quote {d i T r} : pk s i = 39 → R s E (.quote []) d (i + 1) T r → R s E .atom d i T r
  | setNot {d i T r} : pk s i = 91 → pk s (i + 1) = 94 → R s E (.set true []) d (i + 2) T r → R s E .atom d i T r
  | set {d i T r} : pk s i = 91 → pk s (i + 1) ≠ 94 → R s E (.set false []) d (i + 1) T r → R s E .atom d i T r
  | seqErr {ps d i T e p} : atomic (pk s (skip s i)) = true → R s E .atom d (skip s i) T (.err e p) → R s E (.seq ps) d i T (.err e p)
  | seqRep {ps d i T n j T' r} : atomic (pk s (skip s i)) = true → R s E .atom d (skip s i) T (.ok n j T') → repeats (pk s (skip s j)) = true →
      R s E (.seq (ps ++ [T'.length])) d (skip s j + 1) (T' ++ [mk T' (pk s (skip s j)).toNat [] false [n]]) r → R s E (.seq ps) d i T r
  | seqItem {ps d i T n j T' r} : atomic (pk s (skip s i)) = true → R s E .atom d (skip s i) T (.ok n j T') → repeats (pk s (skip s j)) = false →
      R s E (.seq (ps ++ [n])) d (skip s j) T' r → R s E (.seq ps) d i T r
  | seqForm {d i T} : atomic (pk s (skip s i)) = false → R s E (.seq []) d i T (.err 2 (skip s i))
  | seqEnd {ps d i T} : atomic (pk s (skip s i)) = false → ps ≠ [] → R s E (.seq ps) d i T (.ok T.length (skip s i) (T ++ [mk T 113 [] false ps]))
  | exprErr {ps d i T e p} : R s E (.seq []) d i T (.err e p) → R s E (.expr ps) d i T (.err e p)
  | exprMore {ps d i T n j T' r} : R s E (.seq []) d i T (.ok n j T') → pk s (skip s j) = 124 → R s E (.expr (ps ++ [n])) d (skip s j + 1) T' r → R s E (.expr ps) d i T r
  | exprEnd {ps d i T n j T'} : R s E (.seq []) d i T (.ok n j T') → pk s (skip s j) ≠ 124 → R s E (.expr ps) d i T (.ok T'.length (skip s j) (T' ++ [mk T' 99 [] false (ps ++ [n])]))

end G
end Go.Proofs.YtpgcidpghmoibaaGreatDoor

namespace Go.Proofs.YtpgcidpghmoibaaGreatDoor
namespace G

/-- A node that may stand at place k of a table. -/
structure Good (T : List PNode) (k : Nat) (x : PNode) : Prop where
  parts : ∀ p ∈ x.parts, p < k
  size : x.size = min ((if x.kind = 115 then 1 else 0) + sizeOf T x.parts) 101
  pos : 1 ≤ x.size
  ranges : ∀ r ∈ x.ranges, r.1 ≤ 1114111 ∧ r.2 ≤ 1114111
  kind : (x.kind = 115 ∧ x.parts = []) ∨ ((x.kind = 113 ∨ x.kind = 99) ∧ x.parts ≠ []) ∨ ((x.kind = 42 ∨ x.kind = 43 ∨ x.kind = 63) ∧ x.parts.length = 1)

def WF (T : List PNode) : Prop := ∀ k x, T[k]? = some x → Good T k x

theorem sizeOf_append (T X : List PNode) (ps : List Nat) (h : ∀ p ∈ ps, p < T.length) : sizeOf (T ++ X) ps = sizeOf T ps := by
  unfold sizeOf
  congr 1
  apply List.map_congr_left
  intro p hp
  unfold sz
  rw [List.getElem?_append_left (h p hp)]
theorem sizeOf_pos (T : List PNode) (hT : WF T) (ps : List Nat) (h : ∀ p ∈ ps, p < T.length) (hn : ps ≠ []) : 1 ≤ sizeOf T ps := by
  match ps, hn with
  | p :: ps, _ =>
    have hp := h p (by simp)
    have hx := List.getElem?_eq_getElem hp
    have := (hT p _ hx).pos
    simp only [sizeOf, List.map_cons, List.sum_cons, sz_eq hx]
    omega

theorem WF.snoc {T : List PNode} (hT : WF T) (k : Nat) (rs : List (Nat × Nat)) (o : Bool) (ps : List Nat) (hps : ∀ p ∈ ps, p < T.length) (hrs : ∀ r ∈ rs, r.1 ≤ 1114111 ∧ r.2 ≤ 1114111)
    (hk : (k = 115 ∧ ps = []) ∨ ((k = 113 ∨ k = 99) ∧ ps ≠ []) ∨ ((k = 42 ∨ k = 43 ∨ k = 63) ∧ ps.length = 1)) : WF (T ++ [mk T k rs o ps]) := by
  intro j x hx
  rcases Nat.lt_or_ge j T.length with hj | hj
  · rw [List.getElem?_append_left hj] at hx
    have g := hT j x hx
    refine ⟨g.parts, ?_, g.pos, g.ranges, g.kind⟩
    rw [sizeOf_append T _ _ (fun p hp => by have := g.parts p hp; omega)]
    exact g.size
  · rw [List.getElem?_append_right hj] at hx
    have h0 : j - T.length = 0 := by
      obtain ⟨h1, _⟩ := List.getElem?_eq_some_iff.1 hx
      simp at h1
      omega
    rw [h0] at hx
    simp only [List.getElem?_cons_zero, Option.some.injEq] at hx
    subst hx
    have e : j = T.length := by omega
    subst e
    refine ⟨hps, ?_, ?_, hrs, hk⟩
    · show min ((if k = 115 then 1 else 0) + sizeOf T ps) 101 = min ((if k = 115 then 1 else 0) + sizeOf (T ++ [mk T k rs o ps]) ps) 101
      rw [sizeOf_append T _ _ hps]
    · show 1 ≤ min ((if k = 115 then 1 else 0) + sizeOf T ps) 101
      rcases hk with ⟨rfl, _⟩ | ⟨_, hn⟩ | ⟨_, hl⟩
      · simp; omega
      · have := sizeOf_pos T hT ps hps hn; omega
      · have := sizeOf_pos T hT ps hps (by intro e; rw [e] at hl; simp at hl); omega
theorem WF.le {T : List PNode} (hT : WF T) : ∀ x ∈ T, x.size ≤ 101 := by
  intro x hx
  obtain ⟨k, hk⟩ := List.getElem?_of_mem hx
  have := (hT k x hk).size
  omega

def NT.parts : NT → List Nat
  | .quote ps => ps
  | .seq ps => ps
  | .expr ps => ps
  | _ => []
def NT.ranges : NT → List (Nat × Nat)
  | .set _ rs => rs
  | _ => []
def NT.sl : NT → Nat
  | .quote _ => 0
  | .set _ _ => 3
  | .atom => 3
  | .seq ps => if ps = [] then 2 else 0
  | .expr _ => 1
def NT.sr : NT → Nat
  | .seq ps => if ps = [] then 0 else 1
  | _ => 0

/-- What holds of what is read. -/
def Res.Fine (s : ByteArray) (nt : NT) (i : Nat) (T : List PNode) : Res → Prop
  | .ok n j T' => i ≤ j ∧ j ≤ s.size ∧ n < T'.length ∧ WF T' ∧ (∃ X, T' = T ++ X) ∧ T'.length + 4 * i + nt.sl ≤ T.length + 4 * j + nt.sr
  | .err e p => 1 ≤ e ∧ e ≤ 6 ∧ p ≤ s.size

theorem lookup_lt {E : List (ByteArray × Nat)} {n : ByteArray} {k m : Nat} (hE : ∀ x ∈ E, x.2 < m) (h : lookup E n = some k) : k < m := by
  unfold lookup at h
  cases hf : E.find? fun x => decide (x.1 = n) with
  | none => rw [hf] at h; cases h
  | some x =>
    rw [hf] at h
    simp only [Option.map_some, Option.some.injEq] at h
    subst h
    exact hE x (List.mem_of_find?_eq_some hf)

theorem R.fine {s : ByteArray} {E : List (ByteArray × Nat)} {nt : NT} {d i : Nat} {T : List PNode} {r : Res} (h : R s E nt d i T r) :
    i ≤ s.size → WF T → (∀ p ∈ nt.parts, p < T.length) → (∀ x ∈ nt.ranges, x.1 ≤ 1114111 ∧ x.2 ≤ 1114111) → (∀ x ∈ E, x.2 < T.length) → r.Fine s nt i T := by
  induction h with
  | quoteErr h => intro hi _ _ _ _; exact ⟨by omega, by omega, hi⟩
  | @quoteEnd ps d i T x j h h2 =>
    intro hi hT hp _ _
    have b := chr_bd h
    have hj := lt_of_pk (s := s) (i := j) (by omega)
    have w1 := hT.snoc 115 [(x, x)] false [] (by simp) (by simpa using b.2.2) (.inl ⟨rfl, rfl⟩)
    refine ⟨by omega, by omega, by simp, w1.snoc 113 [] false (ps ++ [T.length]) ?_ (by simp) (.inr (.inl ⟨.inl rfl, by simp⟩)), ⟨_, List.append_assoc _ _ _⟩, by simp [NT.sl, NT.sr]; omega⟩
    intro p hp2
    rcases List.mem_append.1 hp2 with hp2 | hp2
    · have := hp p hp2; simp; omega
    · simp at hp2; simp; omega
  | @quoteMore ps d i T x j r h h2 _ ih =>
    intro hi hT hp hr hE
    have b := chr_bd h
    have w1 := hT.snoc 115 [(x, x)] false [] (by simp) (by simpa using b.2.2) (.inl ⟨rfl, rfl⟩)
    have := ih (by omega) w1 (by
      intro p hp2
      rcases List.mem_append.1 hp2 with hp2 | hp2
      · have := hp p hp2; simp; omega
      · simp at hp2; simp; omega) hr (fun y hy => by have := hE y hy; simp; omega)
    cases r with
    | err e p => exact this
    | ok n j' T' =>
      obtain ⟨a1, a2, a3, a4, ⟨X, rfl⟩, a6⟩ := this
      refine ⟨by omega, a2, a3, a4, ⟨_, List.append_assoc _ _ _⟩, ?_⟩
      simp [NT.sl, NT.sr] at a6 ⊢
      omega
  | @setEnd o rs d i T h =>
    intro hi hT _ hr _
    have hj := lt_of_pk (s := s) (i := i) (by omega)
    exact ⟨by omega, by omega, by simp, hT.snoc 115 rs o [] (by simp) hr (.inl ⟨rfl, rfl⟩), ⟨_, rfl⟩, by simp [NT.sl, NT.sr]; omega⟩
  | setErr h h2 => intro hi _ _ _ _; exact ⟨by omega, by omega, hi⟩
  | @setOne o rs d i T a j r h h2 h3 _ ih =>
    intro hi hT hp hr hE
    have b := chr_bd h2
    have := ih (by omega) hT hp (by
      intro y hy
      rcases List.mem_append.1 hy with hy | hy
      · exact hr y hy
      · simp at hy; subst hy; exact ⟨b.2.2, b.2.2⟩) hE
    cases r with
    | err e p => exact this
    | ok n j' T' =>
      obtain ⟨a1, a2, a3, a4, a5, a6⟩ := this
      refine ⟨by omega, a2, a3, a4, a5, ?_⟩
      simp [NT.sl, NT.sr] at a6 ⊢
      omega
  | @setErr2 o rs d i T a j h h2 h3 h4 =>
    intro hi _ _ _ _
    have b := chr_bd h2
    have hj := lt_of_pk (s := s) (i := j) (by omega)
    exact ⟨by omega, by omega, by omega⟩
  | setErr3 h h2 h3 h4 h5 => intro hi _ _ _ _; exact ⟨by omega, by omega, hi⟩
  | @setTwo o rs d i T a j b' k r h h2 h3 h4 h5 _ ih =>
    intro hi hT hp hr hE
    have b := chr_bd h2
    have c := chr_bd h4
    have := ih (by omega) hT hp (by
      intro y hy
      rcases List.mem_append.1 hy with hy | hy
      · exact hr y hy
      · simp at hy; subst hy; exact ⟨b.2.2, c.2.2⟩) hE
    cases r with
    | err e p => exact this
    | ok n j' T' =>
      obtain ⟨a1, a2, a3, a4, a5, a6⟩ := this
      refine ⟨by omega, a2, a3, a4, a5, ?_⟩
      simp [NT.sl, NT.sr] at a6 ⊢
      omega
  | deep h h2 => intro hi _ _ _ _; exact ⟨by omega, by omega, hi⟩
  | @parenErr d i T e p h h2 _ ih =>
    intro hi hT hp hr hE
    have hj := lt_of_pk (s := s) (i := i) (by omega)
    exact ih (by omega) hT (by simp [NT.parts]) (by simp [NT.ranges]) hE
  | @parenForm d i T n j T' h h2 _ h3 ih =>
    intro hi hT hp hr hE
    have hj := lt_of_pk (s := s) (i := i) (by omega)
    have := ih (by omega) hT (by simp [NT.parts]) (by simp [NT.ranges]) hE
    exact ⟨by omega, by omega, skip_le s _ this.2.1⟩
  | @paren d i T n j T' h h2 _ h3 ih =>
    intro hi hT hp hr hE
    have hj := lt_of_pk (s := s) (i := i) (by omega)
    obtain ⟨a1, a2, a3, a4, a5, a6⟩ := ih (by omega) hT (by simp [NT.parts]) (by simp [NT.ranges]) hE
    have hk := lt_of_pk (s := s) (i := skip s j) (by omega)
    have hg := skip_ge s j
    refine ⟨by omega, by omega, a3, a4, a5, ?_⟩
    simp [NT.sl, NT.sr] at a6 ⊢
    omega
  | @dot d i T h =>
    intro hi hT _ _ _
    have hj := lt_of_pk (s := s) (i := i) (by omega)
    exact ⟨by omega, by omega, by simp, hT.snoc 115 [] true [] (by simp) (by simp) (.inl ⟨rfl, rfl⟩), ⟨_, rfl⟩, by simp [NT.sl, NT.sr]; omega⟩
  | nameForm h h2 => intro hi _ _ _ _; exact ⟨by omega, by omega, hi⟩
  | nameErr h h2 h3 => intro hi _ _ _ _; exact ⟨by omega, by omega, hi⟩
  | @name d i T n h h2 h3 =>
    intro hi hT _ _ hE
    have hj := lt_of_pk (s := s) (i := i) (by omega)
    have hg := wend_ge s (i + 1)
    have hl := wend_le s (i + 1) (by omega)
    exact ⟨by omega, hl, lookup_lt hE h3, hT, ⟨[], by simp⟩, by simp [NT.sl, NT.sr]; omega⟩
  | @quote d i T r h _ ih =>
    intro hi hT hp hr hE
    have hj := lt_of_pk (s := s) (i := i) (by omega)
    have := ih (by omega) hT (by simp [NT.parts]) (by simp [NT.ranges]) hE
    cases r with
    | err e p => exact this
    | ok n j' T' =>
      obtain ⟨a1, a2, a3, a4, a5, a6⟩ := this
      refine ⟨by omega, a2, a3, a4, a5, ?_⟩
      simp [NT.sl, NT.sr] at a6 ⊢
      omega
  | @setNot d i T r h h2 _ ih =>
    intro hi hT hp hr hE
    have hj := lt_of_pk (s := s) (i := i + 1) (by omega)
    have := ih (by omega) hT (by simp [NT.parts]) (by simp [NT.ranges]) hE
    cases r with
    | err e p => exact this
    | ok n j' T' =>
      obtain ⟨a1, a2, a3, a4, a5, a6⟩ := this
      refine ⟨by omega, a2, a3, a4, a5, ?_⟩
      simp [NT.sl, NT.sr] at a6 ⊢
      omega
  | @set d i T r h h2 _ ih =>
    intro hi hT hp hr hE
    have hj := lt_of_pk (s := s) (i := i) (by omega)
    have := ih (by omega) hT (by simp [NT.parts]) (by simp [NT.ranges]) hE
    cases r with
    | err e p => exact this
    | ok n j' T' =>
      obtain ⟨a1, a2, a3, a4, a5, a6⟩ := this
      refine ⟨by omega, a2, a3, a4, a5, ?_⟩
      simp [NT.sl, NT.sr] at a6 ⊢
      omega
  | @seqErr ps d i T e p h _ ih =>
    intro hi hT hp hr hE
    exact ih (skip_le s _ hi) hT (by simp [NT.parts]) (by simp [NT.ranges]) hE
  | @seqRep ps d i T n j T' r h _ h3 _ ih1 ih2 =>
    intro hi hT hp hr hE
    obtain ⟨a1, a2, a3, a4, ⟨X, rfl⟩, a6⟩ := ih1 (skip_le s _ hi) hT (by simp [NT.parts]) (by simp [NT.ranges]) hE
    have hg := skip_ge s i
    have hg2 := skip_ge s j
    have hk := lt_of_pk (s := s) (i := skip s j) (by simp [repeats] at h3; omega)
    have w1 := a4.snoc (pk s (skip s j)).toNat [] false [n] (by simpa using a3) (by simp) (.inr (.inr ⟨by simp [repeats] at h3; omega, rfl⟩))
    have := ih2 (by omega) w1 (by
      intro p hp2
      rcases List.mem_append.1 hp2 with hp2 | hp2
      · have := hp p hp2; simp; omega
      · simp at hp2; simp; omega) (by simp [NT.ranges]) (fun y hy => by have := hE y hy; simp; omega)
    cases r with
    | err e p => exact this
    | ok n' j' T2 =>
      obtain ⟨b1, b2, b3, b4, ⟨Y, rfl⟩, b6⟩ := this
      refine ⟨by omega, b2, b3, b4, ⟨X ++ ([mk (T ++ X) (pk s (skip s j)).toNat [] false [n]] ++ Y), by simp⟩, ?_⟩
      have e : ¬ (ps ++ [T.length + X.length] = []) := by simp
      simp only [NT.sl, NT.sr, if_neg e, List.length_append, List.length_singleton] at a6 b6 ⊢
      split <;> omega
  | @seqItem ps d i T n j T' r h _ h3 _ ih1 ih2 =>
    intro hi hT hp hr hE
    obtain ⟨a1, a2, a3, a4, ⟨X, rfl⟩, a6⟩ := ih1 (skip_le s _ hi) hT (by simp [NT.parts]) (by simp [NT.ranges]) hE
    have hg := skip_ge s i
    have hg2 := skip_ge s j
    have := ih2 (skip_le s _ a2) a4 (by
      intro p hp2
      rcases List.mem_append.1 hp2 with hp2 | hp2
      · have := hp p hp2; simp; omega
      · simp only [List.mem_singleton] at hp2; subst hp2; exact a3) (by simp [NT.ranges]) (fun y hy => by have := hE y hy; simp; omega)
    cases r with
    | err e p => exact this
    | ok n' j' T2 =>
      obtain ⟨b1, b2, b3, b4, ⟨Y, rfl⟩, b6⟩ := this
      refine ⟨by omega, b2, b3, b4, ⟨X ++ Y, by simp⟩, ?_⟩
      have e : ¬ (ps ++ [n] = []) := by simp
      simp only [NT.sl, NT.sr, if_neg e, List.length_append] at a6 b6 ⊢
      split <;> omega
  | seqForm h => intro hi _ _ _ _; exact ⟨by omega, by omega, skip_le s _ hi⟩
  | @seqEnd ps d i T h hn =>
    intro hi hT hp _ _
    have hg := skip_ge s i
    exact ⟨hg, skip_le s _ hi, by simp, hT.snoc 113 [] false ps hp (by simp) (.inr (.inl ⟨.inl rfl, hn⟩)), ⟨_, rfl⟩, by simp [NT.sl, NT.sr, hn]; omega⟩
  | exprErr _ ih =>
    intro hi hT hp hr hE
    exact ih hi hT (by simp [NT.parts]) (by simp [NT.ranges]) hE
  | @exprMore ps d i T n j T' r _ h2 _ ih1 ih2 =>
    intro hi hT hp hr hE
    obtain ⟨a1, a2, a3, a4, ⟨X, rfl⟩, a6⟩ := ih1 hi hT (by simp [NT.parts]) (by simp [NT.ranges]) hE
    have hg2 := skip_ge s j
    have hk := lt_of_pk (s := s) (i := skip s j) (by omega)
    have := ih2 (by omega) a4 (by
      intro p hp2
      rcases List.mem_append.1 hp2 with hp2 | hp2
      · have := hp p hp2; simp; omega
      · simp only [List.mem_singleton] at hp2; subst hp2; exact a3) (by simp [NT.ranges]) (fun y hy => by have := hE y hy; simp; omega)
    cases r with
    | err e p => exact this
    | ok n' j' T2 =>
      obtain ⟨b1, b2, b3, b4, ⟨Y, rfl⟩, b6⟩ := this
      refine ⟨by omega, b2, b3, b4, ⟨X ++ Y, by simp⟩, ?_⟩
      simp [NT.sl, NT.sr] at a6 b6 ⊢
      omega
  | @exprEnd ps d i T n j T' _ h2 ih =>
    intro hi hT hp hr hE
    obtain ⟨a1, a2, a3, a4, ⟨X, rfl⟩, a6⟩ := ih hi hT (by simp [NT.parts]) (by simp [NT.ranges]) hE
    have hg2 := skip_ge s j
    refine ⟨by omega, skip_le s _ a2, by simp, a4.snoc 99 [] false (ps ++ [n]) ?_ (by simp) (.inr (.inl ⟨.inr rfl, by simp⟩)), ⟨X ++ [mk (T ++ X) 99 [] false (ps ++ [n])], by simp⟩, ?_⟩
    · intro p hp2
      rcases List.mem_append.1 hp2 with hp2 | hp2
      · have := hp p hp2; simp; omega
      · simp only [List.mem_singleton] at hp2; subst hp2; exact a3
    · simp [NT.sl, NT.sr] at a6 ⊢
      omega

end G
end Go.Proofs.YtpgcidpghmoibaaGreatDoor

namespace Go.Proofs.YtpgcidpghmoibaaGreatDoor
namespace G

/-- Is it a rune? -/
def runeB (c : Int) : Bool := decide (0 ≤ c) && decide (c ≤ 1114111) && (decide (c < 55296) || decide (57344 ≤ c))
def within (c : Int) (r : Nat × Nat) : Bool := decide ((r.1 : Int) ≤ c) && decide (c ≤ (r.2 : Int))
/-- Is a number in a set? -/
def inV (x : PNode) (c : Int) : Bool := if runeB c && x.ranges.any (within c) then !x.other else x.other

/-- The places of a node. -/
def leaves (T : List PNode) : Nat → Nat → List PNode
  | 0, _ => []
  | f + 1, n => match T[n]? with
    | some x => if x.kind = 115 then [x] else x.parts.flatMap (leaves T f)
    | none => []

theorem leaves_step {T : List PNode} {f n : Nat} {x : PNode} (h : T[n]? = some x) : leaves T (f + 1) n = if x.kind = 115 then [x] else x.parts.flatMap (leaves T f) := by
  simp [leaves, h]
theorem flatMap_congr' {α β : Type} {l : List α} {f g : α → List β} (h : ∀ x ∈ l, f x = g x) : l.flatMap f = l.flatMap g := by
  induction l with
  | nil => rfl
  | cons a l ih => simp only [List.flatMap_cons, h a (by simp), ih (fun x hx => h x (by simp [hx]))]
/-- More fuel than needed changes nothing. -/
theorem leaves_fuel {T : List PNode} (hT : WF T) : ∀ (n f g : Nat), n < f → n < g → leaves T f n = leaves T g n := by
  intro n
  induction n using Nat.strongRecOn with
  | ind n ih =>
    intro f g hf hg
    match f, g, hf, hg with
    | f + 1, g + 1, hf, hg =>
      cases hx : T[n]? with
      | none => simp [leaves, hx]
      | some x =>
        rw [leaves_step hx, leaves_step hx]
        split
        · rfl
        · apply flatMap_congr'
          intro p hp
          have hpn := (hT n x hx).parts p hp
          exact ih p hpn f g (by omega) (by omega)
/-- The places of a node, with fuel enough. -/
def lv (T : List PNode) (n : Nat) : List PNode := leaves T (n + 1) n
theorem lv_step {T : List PNode} (hT : WF T) {n : Nat} {x : PNode} (h : T[n]? = some x) : lv T n = if x.kind = 115 then [x] else x.parts.flatMap (lv T) := by
  rw [lv, leaves_step h]
  split
  · rfl
  · apply flatMap_congr'
    intro p hp
    have hpn := (hT n x h).parts p hp
    exact leaves_fuel hT p _ _ hpn (by omega)

/-- Does a place of theirs tell two numbers apart? -/
def tellB (T : List PNode) (a c : Int) (n : Nat) : Bool := (lv T n).any fun x => inV x a != inV x c
theorem tellB_step {T : List PNode} (hT : WF T) (a c : Int) {n : Nat} {x : PNode} (h : T[n]? = some x) : tellB T a c n = if x.kind = 115 then (inV x a != inV x c) else x.parts.any (tellB T a c) := by
  unfold tellB
  rw [lv_step hT h]
  split
  · simp
  · rw [List.any_flatMap]

end G
end Go.Proofs.YtpgcidpghmoibaaGreatDoor

namespace Go.Proofs.YtpgcidpghmoibaaGreatDoor
namespace G

/-- In order, no two with a number in common, none empty. -/
def Sep (l : List (Nat × Nat)) : Prop := l.Pairwise (fun a b => a.2 < b.1) ∧ ∀ a ∈ l, a.1 ≤ a.2

/-- One range more, whose beginning is not below the others'. -/
def meld (acc : List (Nat × Nat)) (x : Nat × Nat) : List (Nat × Nat) :=
  match acc.getLast? with
  | some l => if x.1 ≤ l.2 then acc.dropLast ++ [(l.1, max l.2 x.2)] else acc ++ [x]
  | none => [x]

theorem any_snoc {α : Type} (l : List α) (x : α) (f : α → Bool) : (l ++ [x]).any f = (l.any f || f x) := by simp

theorem snoc_cases {α : Type} (l : List α) : l = [] ∨ ∃ i x, l = i ++ [x] := by
  rcases List.eq_nil_or_concat l with h | ⟨i, x, h⟩
  · exact .inl h
  · exact .inr ⟨i, x, by simpa using h⟩

theorem meld_nil (x : Nat × Nat) : meld [] x = [x] := rfl
theorem meld_in (i : List (Nat × Nat)) (l x : Nat × Nat) (h : x.1 ≤ l.2) : meld (i ++ [l]) x = i ++ [(l.1, max l.2 x.2)] := by
  simp [meld, h]
theorem meld_out (i : List (Nat × Nat)) (l x : Nat × Nat) (h : ¬ x.1 ≤ l.2) : meld (i ++ [l]) x = i ++ [l] ++ [x] := by
  simp [meld, h]

theorem meld_sep {acc : List (Nat × Nat)} {x : Nat × Nat} (hs : Sep acc) (ho : ∀ a ∈ acc, a.1 ≤ x.1) (hx : x.1 ≤ x.2) :
    Sep (meld acc x) ∧ (∀ a ∈ meld acc x, a.1 ≤ x.1) ∧ ∀ c, (meld acc x).any (within c) = (acc.any (within c) || within c x) := by
  rcases snoc_cases acc with rfl | ⟨i, l, rfl⟩
  · rw [meld_nil]
    refine ⟨⟨by simp, by simpa using hx⟩, by simp, fun c => by simp⟩
  · obtain ⟨hp, hn⟩ := hs
    rw [List.pairwise_append] at hp
    obtain ⟨p1, _, p3⟩ := hp
    have hl : l.1 ≤ x.1 := ho l (by simp)
    have hl2 : l.1 ≤ l.2 := hn l (by simp)
    by_cases h : x.1 ≤ l.2
    · rw [meld_in i l x h]
      refine ⟨⟨?_, ?_⟩, ?_, ?_⟩
      · rw [List.pairwise_append]
        exact ⟨p1, by simp, fun a ha b hb => by simp at hb; subst hb; exact p3 a ha l (by simp)⟩
      · intro a ha
        simp only [List.mem_append, List.mem_singleton] at ha
        rcases ha with ha | rfl
        · exact hn a (by simp [ha])
        · show l.1 ≤ max l.2 x.2; omega
      · intro a ha
        simp only [List.mem_append, List.mem_singleton] at ha
        rcases ha with ha | rfl
        · exact ho a (by simp [ha])
        · exact hl
      · intro c
        rw [any_snoc, any_snoc, Bool.or_assoc]
        congr 1
        simp only [within]
        rw [Bool.eq_iff_iff]
        simp only [Bool.and_eq_true, Bool.or_eq_true, decide_eq_true_eq]
        omega
    · rw [meld_out i l x h]
      refine ⟨⟨?_, ?_⟩, ?_, ?_⟩
      · rw [List.pairwise_append]
        refine ⟨by rw [List.pairwise_append]; exact ⟨p1, by simp, p3⟩, by simp, fun a ha b hb => ?_⟩
        simp at hb
        subst hb
        simp only [List.mem_append, List.mem_singleton] at ha
        rcases ha with ha | rfl
        · have := p3 a ha l (by simp); omega
        · omega
      · intro a ha
        simp only [List.mem_append, List.mem_singleton] at ha
        rcases ha with (ha | rfl) | rfl
        · exact hn a (by simp [ha])
        · exact hl2
        · exact hx
      · intro a ha
        simp only [List.mem_append, List.mem_singleton] at ha
        rcases ha with (ha | rfl) | rfl
        · exact ho a (by simp [ha])
        · exact hl
        · exact Nat.le_refl _
      · intro c
        rw [any_snoc]

/-- Ranges in order, made one behind the other. -/
def melds (l : List (Nat × Nat)) : List (Nat × Nat) := l.foldl meld []
theorem melds_snoc (l : List (Nat × Nat)) (x : Nat × Nat) : melds (l ++ [x]) = meld (melds l) x := by simp [melds]
theorem melds_sep (l : List (Nat × Nat)) : ∀ (k : Nat), k ≤ l.length → l.Pairwise (fun a b => a.1 ≤ b.1) → (∀ a ∈ l, a.1 ≤ a.2) →
    Sep (melds (l.take k)) ∧ (∀ a ∈ melds (l.take k), ∀ b ∈ l.drop k, a.1 ≤ b.1) ∧ ∀ c, (melds (l.take k)).any (within c) = (l.take k).any (within c)
  | 0, _, _, _ => by simp [melds, Sep]
  | k + 1, hk, hp, hn => by
    obtain ⟨h1, h2, h3⟩ := melds_sep l k (by omega) hp hn
    have hx := List.getElem?_eq_getElem (show k < l.length by omega)
    have et : l.take (k + 1) = l.take k ++ [l[k]] := by rw [List.take_add_one, hx]; rfl
    have ed : l.drop k = l[k] :: l.drop (k + 1) := List.drop_eq_getElem_cons (by omega)
    obtain ⟨m1, m2, m3⟩ := meld_sep (x := l[k]) h1 (fun a ha => h2 a ha _ (ed ▸ List.mem_cons_self)) (hn _ (List.getElem_mem _))
    rw [et, melds_snoc]
    refine ⟨m1, ?_, fun c => by rw [m3, h3, any_snoc]⟩
    intro a ha b hb
    have h4 := m2 a ha
    have h5 : (l.drop k).Pairwise (fun a b => a.1 ≤ b.1) := hp.sublist (List.drop_sublist _ _)
    rw [ed, List.pairwise_cons] at h5
    have := h5.1 b hb
    omega

/-- How many end ahead of a number. -/
def ahead (l : List (Nat × Nat)) (c : Int) : Nat := l.countP fun a => decide ((a.2 : Int) < c)
theorem sep_mono {l : List (Nat × Nat)} (h : Sep l) {i j : Nat} {a b : Nat × Nat} (hij : i ≤ j) (ha : l[i]? = some a) (hb : l[j]? = some b) : a.1 ≤ b.1 ∧ a.2 ≤ b.2 := by
  rcases Nat.lt_or_ge i j with hlt | hge
  · obtain ⟨h1, e1⟩ := List.getElem?_eq_some_iff.1 ha
    obtain ⟨h2, e2⟩ := List.getElem?_eq_some_iff.1 hb
    have hp := List.pairwise_iff_getElem.1 h.1 i j h1 h2 hlt
    have ha' := h.2 a (e1 ▸ List.getElem_mem _)
    have hb' := h.2 b (e2 ▸ List.getElem_mem _)
    rw [e1, e2] at hp
    omega
  · have e : i = j := by omega
    subst e
    rw [ha] at hb
    cases hb
    omega
/-- A number is in one of them if it is in the first that does not end ahead of it. -/
theorem sep_any {l : List (Nat × Nat)} (h : Sep l) (c : Int) (i : Nat) (hi : ∀ j a, j < i → l[j]? = some a → (a.2 : Int) < c) (hi2 : ∀ a, l[i]? = some a → c ≤ (a.2 : Int)) :
    l.any (within c) = match l[i]? with | some a => decide ((a.1 : Int) ≤ c) | none => false := by
  cases hx : l[i]? with
  | none =>
    simp only
    rw [List.any_eq_false]
    intro a ha
    obtain ⟨j, hj⟩ := List.getElem?_of_mem ha
    have hl : l.length ≤ i := List.getElem?_eq_none_iff.1 hx
    obtain ⟨h1, _⟩ := List.getElem?_eq_some_iff.1 hj
    have := hi j a (by omega) hj
    simp only [within, Bool.and_eq_true, decide_eq_true_eq]
    omega
  | some a =>
    have h2 := hi2 a hx
    simp only
    by_cases hc : (a.1 : Int) ≤ c
    · rw [decide_eq_true hc, List.any_eq_true]
      exact ⟨a, List.mem_of_getElem? hx, by simp [within, hc, h2]⟩
    · rw [decide_eq_false hc, List.any_eq_false]
      intro b hb
      obtain ⟨j, hj⟩ := List.getElem?_of_mem hb
      simp only [within, Bool.and_eq_true, decide_eq_true_eq]
      rcases Nat.lt_or_ge j i with hlt | hge
      · have := hi j b hlt hj
        omega
      · have := sep_mono h hge hx hj
        omega

end G
end Go.Proofs.YtpgcidpghmoibaaGreatDoor

namespace Go.Proofs.YtpgcidpghmoibaaGreatDoor
open Go
section
variable {P : Program} (w : World)

theorem run_append_split (t ty : TypeId) (base : Nat) (e : TypeId) (i : TypeInfo) (z : Value) (size bytes : Nat) (ht : P.underlying t = some (.slice e)) (hi : P.info? e = some i) (hz : i.zero = some z)
    (hsize : i.size = size) (hby : i.bytes = bytes) (hzs : z.cells.size = size) (hsz : 0 < size)
    (v : Value) (n : Nat) (xs : List Value) (hown : w.ownsRow base e size v n xs)
    (a : Addr) (m c : Nat) (news : List Value) (hl : news.length = m * size) (hnews : ∀ j u, news[j]? = some u → w.cell? (a.add j) = some u) (h1 : ∀ u ∈ news, u.oneCell' = true)
    (hm : 0 < m) (h63 : n + m ≤ maxLen) (hbytes : (n + m) * bytes ≤ 140737488355328) (hbase : base ≤ w.heap.size) :
    ∃ v' w', (Builtin.append_ #[t, t] ty #[v, .slice (some a) m c]).run P w = .ok v' w' ∧ w'.ownsRow base e size v' (n + m) (xs ++ news) ∧ w.grownBy w' v.ownBlock ∧
      ((∃ g cap, v = .slice (some ⟨g, 0, none⟩) n cap ∧ v' = .slice (some ⟨g, 0, none⟩) (n + m) cap) ∨ (v'.ownBlock = some w.heap.size ∧ w.grownBy w' none)) := by
  obtain ⟨v', w', hr, h2, h3, _, h5⟩ := run_append_own_at (P := P) w base t ty e i z size bytes ht hi hz hsize hby hzs hsz v n xs hown a m c news hl hnews h1 h63 hbytes hbase
  refine ⟨v', w', hr, h2, h3, ?_⟩
  rcases hown.2 with ⟨rfl, rfl⟩ | ⟨g, cap, cur, rfl, hbg, hg, hnc, hcm, hcs, htake⟩
  · right
    rcases h5 with h5 | h5
    · rcases h2.2 with ⟨_, h0⟩ | ⟨g, cap, cur, rfl, _⟩
      · omega
      · simp [Value.ownBlock] at h5
    · exact ⟨h5, h3⟩
  · by_cases hroom : n + m ≤ cap
    · left
      have hfit : n * i.size + news.length ≤ cur.size := by rw [hl, hcs, hsize, ← Nat.add_mul]; exact Nat.mul_le_mul_right _ hroom
      have hr2 := run_append_room (P := P) w t ty e i ht hi g n cap cur hg a m c news (by rw [hsize]; exact hl) hnews h1 hroom hfit
      rw [hr2] at hr
      simp only [Result.ok.injEq] at hr
      exact ⟨g, cap, rfl, hr.1.symm⟩
    · right
      have holds : ∀ j u, xs[j]? = some u → w.cell? ((⟨g, 0, none⟩ : Addr).add j) = some u := hown.cells (g := g) rfl
      obtain ⟨v2, w2, hr2, q2, q3⟩ := run_append_arg_grows (P := P) w t ty e i z size bytes ht hi hz hsize hby hzs hsz ⟨g, 0, none⟩ n cap xs hown.1 holds a m c news hl hnews (by omega) h63 hbytes
      rw [hr2] at hr
      simp only [Result.ok.injEq] at hr
      obtain ⟨rfl, rfl⟩ := hr
      refine ⟨?_, q3⟩
      rcases h5 with h5 | h5
      · exfalso
        have hlt : g < w.heap.size := by
          rcases Nat.lt_or_ge g w.heap.size with hlt | hge
          · exact hlt
          · rw [Array.getElem?_eq_none hge] at hg; cases hg
        have := (q2.lt g (by rw [h5]; rfl)).1
        omega
      · exact h5

theorem wp_append_split {o : Oper} {a : Act} {K : Act → World → Prop} {Q : Exit → Act → World → Prop} (s x : Operand) (t : TypeId)
    (ho : o.op = .call { callee := .builtin .append, args := #[s, x], argTypes := #[t, t] })
    (base : Nat) (e : TypeId) (i : TypeInfo) (z : Value) (size bytes : Nat) (ht : P.underlying t = some (.slice e)) (hi : P.info? e = some i) (hz : i.zero = some z)
    (hsize : i.size = size) (hby : i.bytes = bytes) (hzs : z.cells.size = size) (hsz : 0 < size)
    (v : Value) (n : Nat) (xs : List Value) (hs : a.eval s = v) (hown : w.ownsRow base e size v n xs)
    (ad : Addr) (m c : Nat) (news : List Value) (hx : a.eval x = .slice (some ad) m c) (hl : news.length = m * size) (hnews : ∀ j u, news[j]? = some u → w.cell? (ad.add j) = some u) (h1 : ∀ u ∈ news, u.oneCell' = true)
    (hm : 0 < m) (h63 : n + m ≤ maxLen) (hbytes : (n + m) * bytes ≤ 140737488355328) (hbase : base ≤ w.heap.size)
    (h : ∀ v' w', w'.ownsRow base e size v' (n + m) (xs ++ news) → w.grownBy w' v.ownBlock → ((∃ g cap, v = .slice (some ⟨g, 0, none⟩) n cap ∧ v' = .slice (some ⟨g, 0, none⟩) (n + m) cap) ∨ (v'.ownBlock = some w.heap.size ∧ w.grownBy w' none)) → K (a.put o.dst v') w') : o.wp P a w K Q := by
  obtain ⟨v', w', hr, h2, h3, h4⟩ := run_append_split (P := P) w t o.type base e i z size bytes ht hi hz hsize hby hzs hsz v n xs hown ad m c news hl hnews h1 hm h63 hbytes hbase
  unfold Oper.wp execOp
  simp only [ho, resolve, invoke, builtin, Sem.run_bind, Sem.run_pure, Result.andThen_ok, List.map_toArray, List.map_cons, List.map_nil, hs, hx, hr]
  exact h v' w' h2 h3 h4

theorem wpList_append_split {ops : Array Oper} {rest : List Oper} {o : Oper} {a : Act} {Q : Exit → Act → World → Prop} (hgd : o.guard = none) (s x : Operand) (t : TypeId)
    (ho : o.op = .call { callee := .builtin .append, args := #[s, x], argTypes := #[t, t] })
    (base : Nat) (e : TypeId) (i : TypeInfo) (z : Value) (size bytes : Nat) (ht : P.underlying t = some (.slice e)) (hi : P.info? e = some i) (hz : i.zero = some z)
    (hsize : i.size = size) (hby : i.bytes = bytes) (hzs : z.cells.size = size) (hsz : 0 < size)
    (v : Value) (n : Nat) (xs : List Value) (hs : a.eval s = v) (hown : w.ownsRow base e size v n xs)
    (ad : Addr) (m c : Nat) (news : List Value) (hx : a.eval x = .slice (some ad) m c) (hl : news.length = m * size) (hnews : ∀ j u, news[j]? = some u → w.cell? (ad.add j) = some u) (h1 : ∀ u ∈ news, u.oneCell' = true)
    (hm : 0 < m) (h63 : n + m ≤ maxLen) (hbytes : (n + m) * bytes ≤ 140737488355328) (hbase : base ≤ w.heap.size)
    (h : ∀ v' w', w'.ownsRow base e size v' (n + m) (xs ++ news) → w.grownBy w' v.ownBlock → ((∃ g cap, v = .slice (some ⟨g, 0, none⟩) n cap ∧ v' = .slice (some ⟨g, 0, none⟩) (n + m) cap) ∨ (v'.ownBlock = some w.heap.size ∧ w.grownBy w' none)) → wpList P ops Q rest (a.put o.dst v') w') : wpList P ops Q (o :: rest) a w :=
  wpList_plain hgd fun _ hK => wp_append_split w s x t ho base e i z size bytes ht hi hz hsize hby hzs hsz v n xs hs hown ad m c news hx hl hnews h1 hm h63 hbytes hbase fun v' w' h2 h3 h4 => hK _ _ (h v' w' h2 h3 h4)

end
end Go.Proofs.YtpgcidpghmoibaaGreatDoor
