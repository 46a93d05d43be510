/-
  WHAT THE STATEMENT Walks SAYS, without the program: a segment is the match where it begins; a place within a unit; the next boundary and the last one ahead, counted along the segments. Nothing of the program is run here. Conditions stand at each fact.
-/
import Derived.Test.YtpgcidpghmoibaaGreatDoorJ49
import Derived.Test.YtpgcidpghmoibaaGreatDoorJ25
namespace Go.Proofs.YtpgcidpghmoibaaGreatDoor
namespace G

theorem CutR.seg {T : List PNode} {Q : List Nat} {s : ByteArray} {k : Nat} {l : List Seg} (h : CutR T Q s k l) : ∀ x ∈ l, ∃ k0 n r, k0 < (us s).length ∧ Long T Q ((us s).drop k0) n r ∧ x = ⟨edge s k0, edge s (k0 + max n 1), r⟩ := by
  induction h with
  | done => intro x hx; simp at hx
  | @cons k n r l h1 h2 _ ih =>
    intro x hx
    rcases List.mem_cons.1 hx with rfl | hx
    · exact ⟨k, n, r, h1, h2, rfl⟩
    · exact ih x hx
theorem unit_of {s : ByteArray} {i k : Nat} (hk : k < (us s).length) (h1 : edge s k ≤ i) (h2 : i < edge s (k + 1)) : UnitAt s (i : Int) k :=
  ⟨by omega, fun j _ hj => by have := edge_mono s hj; omega, fun _ => by omega⟩
theorem match_seg {T : List PNode} {Q : List Nat} {s : ByteArray} {l : List Seg} (h : CutR T Q s 0 l) {x g : Seg} (hx : x ∈ l) (hg : Rf.MatchV T Q s (x.f : Int) g) : g.f = x.f ∧ ((0 ≤ x.r ∧ g = x) ∨ (x.r < 0 ∧ g.t = g.f ∧ g.r = -1)) := by
  obtain ⟨k0, n, r, hk, hl, rfl⟩ := h.seg x hx
  obtain ⟨k1, n1, r1, hu, hl1, rfl⟩ := hg
  have hu0 : UnitAt s ((edge s k0 : Nat) : Int) k0 := unit_of hk (Nat.le_refl _) (edge_lt s k0 hk)
  obtain rfl := hu.one hu0
  obtain ⟨rfl, rfl⟩ := hl.one hl1
  refine ⟨rfl, ?_⟩
  rcases hl.rule with ⟨rfl, rfl⟩ | ⟨h0, h1, _⟩
  · exact .inr ⟨by show (-1 : Int) < 0; omega, rfl, rfl⟩
  · refine .inl ⟨h1, ?_⟩
    rw [show max n 1 = n by omega]

/-- Between boundaries. -/
theorem above_next {B : List Nat} (hB : B.Pairwise (· < ·)) {k a b : Nat} (ha : B[k]? = some a) (hb : B[k + 1]? = some b) : AboveIs B (a : Int) (b : Int) := by
  have := asc_lt hB (Nat.lt_succ_self k) ha hb
  refine .inl ⟨k + 1, b, hb, by omega, fun j y hj hy => ?_, rfl⟩
  rcases Nat.lt_or_ge j k with e | e
  · have := asc_lt hB e hy ha; omega
  · obtain rfl : j = k := by omega
    rw [ha] at hy
    simp only [Option.some.injEq] at hy
    omega
theorem above_last {B : List Nat} (hB : B.Pairwise (· < ·)) {k a : Nat} (ha : B[k]? = some a) (hl : B.length = k + 1) : AboveIs B (a : Int) (-1) := by
  refine .inr ⟨fun j y hy => ?_, rfl⟩
  have hj := (List.getElem?_eq_some_iff.1 hy).1
  rcases Nat.lt_or_ge j k with e | e
  · have := asc_lt hB e hy ha; omega
  · obtain rfl : j = k := by omega
    rw [ha] at hy
    simp only [Option.some.injEq] at hy
    omega
theorem below_prev {B : List Nat} (hB : B.Pairwise (· < ·)) {k a b : Nat} (ha : B[k]? = some a) (hb : B[k + 1]? = some b) : BelowIs B (b : Int) (a : Int) := by
  have := asc_lt hB (Nat.lt_succ_self k) ha hb
  refine .inl ⟨k, a, ha, by omega, fun j y hj hy => ?_, rfl⟩
  rcases Nat.lt_or_ge (k + 1) j with e | e
  · have := asc_lt hB e hb hy; omega
  · obtain rfl : j = k + 1 := by omega
    rw [hb] at hy
    simp only [Option.some.injEq] at hy
    omega

/-- The least end above a place, of the segments from k on. -/
def AbK (l : List Seg) (i : Int) (k : Nat) (A : Int) : Prop :=
  (∃ (j : Nat) (x : Seg), k ≤ j ∧ l[j]? = some x ∧ i < (x.t : Int) ∧ (∀ (j' : Nat) (y : Seg), k ≤ j' → j' < j → l[j']? = some y → (y.t : Int) ≤ i) ∧ A = (x.t : Int)) ∨ ((∀ (j : Nat) (y : Seg), k ≤ j → l[j]? = some y → (y.t : Int) ≤ i) ∧ A = -1)
/-- The greatest beginning below a place, of the segments from k on. -/
def BeK (l : List Seg) (i : Int) (k : Nat) (A : Int) : Prop :=
  (∃ (j : Nat) (x : Seg), k ≤ j ∧ l[j]? = some x ∧ (x.f : Int) < i ∧ (∀ (j' : Nat) (y : Seg), j < j' → l[j']? = some y → i ≤ (y.f : Int)) ∧ A = (x.f : Int)) ∨ ((∀ (j : Nat) (y : Seg), k ≤ j → l[j]? = some y → i ≤ (y.f : Int)) ∧ A = -1)
theorem AbK.start (l : List Seg) (i : Int) : AbK l i l.length (-1) := .inr ⟨fun j y hj hy => by have := (List.getElem?_eq_some_iff.1 hy).1; omega, rfl⟩
theorem BeK.start (l : List Seg) (i : Int) : BeK l i l.length (-1) := .inr ⟨fun j y hj hy => by have := (List.getElem?_eq_some_iff.1 hy).1; omega, rfl⟩
theorem AbK.yes {l : List Seg} {i : Int} {k : Nat} {A : Int} (_h : AbK l i (k + 1) A) {x : Seg} (hx : l[k]? = some x) (hi : i < (x.t : Int)) : AbK l i k (x.t : Int) :=
  .inl ⟨k, x, Nat.le_refl _, hx, hi, fun j' y h1 h2 => by omega, rfl⟩
theorem AbK.no {l : List Seg} {i : Int} {k : Nat} {A : Int} (h : AbK l i (k + 1) A) {x : Seg} (hx : l[k]? = some x) (hi : ¬ i < (x.t : Int)) : AbK l i k A := by
  have key : ∀ (y : Seg), l[k]? = some y → (y.t : Int) ≤ i := fun y hy => by rw [hx] at hy; simp only [Option.some.injEq] at hy; subst hy; omega
  rcases h with ⟨j, y, h1, h2, h3, h4, h5⟩ | ⟨h1, h2⟩
  · refine .inl ⟨j, y, by omega, h2, h3, fun j' z e1 e2 hz => ?_, h5⟩
    rcases Nat.lt_or_ge k j' with e | e
    · exact h4 j' z e e2 hz
    · obtain rfl : j' = k := by omega
      exact key z hz
  · refine .inr ⟨fun j' z e1 hz => ?_, h2⟩
    rcases Nat.lt_or_ge k j' with e | e
    · exact h1 j' z e hz
    · obtain rfl : j' = k := by omega
      exact key z hz
theorem BeK.yes {l : List Seg} {i : Int} {k : Nat} {A : Int} (h : BeK l i (k + 1) A) (hA : A < 0) {x : Seg} (hx : l[k]? = some x) (hi : (x.f : Int) < i) : BeK l i k (x.f : Int) := by
  rcases h with ⟨j, y, h1, h2, h3, h4, h5⟩ | ⟨h1, h2⟩
  · omega
  · exact .inl ⟨k, x, Nat.le_refl _, hx, hi, fun j' y hj hy => h1 j' y hj hy, rfl⟩
theorem BeK.no {l : List Seg} {i : Int} {k : Nat} {A : Int} (h : BeK l i (k + 1) A) {x : Seg} (hx : l[k]? = some x) (hi : 0 ≤ A ∨ ¬ (x.f : Int) < i) : BeK l i k A := by
  rcases h with ⟨j, y, h1, h2, h3, h4, h5⟩ | ⟨h1, h2⟩
  · exact .inl ⟨j, y, by omega, h2, h3, h4, h5⟩
  · refine .inr ⟨fun j' z e1 hz => ?_, h2⟩
    rcases Nat.lt_or_ge k j' with e | e
    · exact h1 j' z e hz
    · obtain rfl : j' = k := by omega
      rw [hx] at hz
      simp only [Option.some.injEq] at hz
      subst hz
      omega
theorem BeK.nat {l : List Seg} {i : Int} {k : Nat} {A : Int} (h : BeK l i k A) : A = -1 ∨ 0 ≤ A := by
  rcases h with ⟨j, y, h1, h2, h3, h4, h5⟩ | ⟨h1, h2⟩
  · exact .inr (by omega)
  · exact .inl h2
/-- At the end: the least boundary above a place is the least end above it, or the beginning. -/
theorem AbK.fin {l : List Seg} {i A r : Int} {z : Nat} (hc : Chain 0 l z) (h : AbK l i 0 A) (hr : AboveIs (bnds 0 l) i r) : r = if i < 0 then 0 else A := by
  have tl : ∀ (j : Nat) (y : Seg), l[j]? = some y → (bnds 0 l)[j + 1]? = some y.t := fun j y hy => (hc.get j y hy).2
  have lt : ∀ (j b : Nat), (bnds 0 l)[j + 1]? = some b → ∃ y, l[j]? = some y ∧ y.t = b := fun j b hb => by
    have hj := (List.getElem?_eq_some_iff.1 hb).1
    rw [bnds_len] at hj
    have hy : l[j]? = some l[j] := List.getElem?_eq_getElem (by omega)
    refine ⟨l[j], hy, ?_⟩
    have := (tl j _ hy).symm.trans hb
    simpa using this
  split
  · rename_i hi
    exact hr.one (.inl ⟨0, 0, rfl, by omega, fun j y hj => by omega, rfl⟩)
  · rename_i hi
    refine hr.one ?_
    rcases h with ⟨j, x, _, h2, h3, h4, h5⟩ | ⟨h1, h2⟩
    · refine .inl ⟨j + 1, x.t, tl j x h2, h3, fun j' b hj hb => ?_, h5⟩
      cases j' with
      | zero => simp [bnds] at hb; omega
      | succ j' =>
        obtain ⟨y, hy, rfl⟩ := lt j' b hb
        exact h4 j' y (Nat.zero_le _) (by omega) hy
    · refine .inr ⟨fun j' b hb => ?_, h2⟩
      cases j' with
      | zero => simp [bnds] at hb; omega
      | succ j' =>
        obtain ⟨y, hy, rfl⟩ := lt j' b hb
        exact h1 j' y (Nat.zero_le _) hy
theorem BeK.fin {l : List Seg} {i A r : Int} {z : Nat} (hc : Chain 0 l z) (h : BeK l i 0 A) (hr : BelowIs (bnds 0 l) i r) : r = if (z : Int) < i then (z : Int) else A := by
  have tl : ∀ (j : Nat) (y : Seg), l[j]? = some y → (bnds 0 l)[j]? = some y.f := fun j y hy => (hc.get j y hy).1
  have ll := hc.last
  have lt : ∀ (j b : Nat), j < l.length → (bnds 0 l)[j]? = some b → ∃ y, l[j]? = some y ∧ y.f = b := fun j b hj hb => by
    have hy : l[j]? = some l[j] := List.getElem?_eq_getElem hj
    refine ⟨l[j], hy, ?_⟩
    have := (tl j _ hy).symm.trans hb
    simpa using this
  have hlen : ∀ (j b : Nat), (bnds 0 l)[j]? = some b → j ≤ l.length := fun j b hb => by
    have := (List.getElem?_eq_some_iff.1 hb).1
    rw [bnds_len] at this
    omega
  split
  · rename_i hi
    exact hr.one (.inl ⟨l.length, z, ll, hi, fun j y hj hy => by have := hlen j y hy; omega, rfl⟩)
  · rename_i hi
    refine hr.one ?_
    have hz : ∀ b, (bnds 0 l)[l.length]? = some b → i ≤ (b : Int) := fun b hb => by
      have := ll.symm.trans hb
      simp only [Option.some.injEq] at this
      omega
    rcases h with ⟨j, x, _, h2, h3, h4, h5⟩ | ⟨h1, h2⟩
    · refine .inl ⟨j, x.f, tl j x h2, h3, fun j' b hj hb => ?_, h5⟩
      rcases Nat.lt_or_ge j' l.length with e | e
      · obtain ⟨y, hy, rfl⟩ := lt j' b e hb
        exact h4 j' y hj hy
      · have := hlen j' b hb
        obtain rfl : j' = l.length := by omega
        exact hz b hb
    · refine .inr ⟨fun j' b hb => ?_, h2⟩
      rcases Nat.lt_or_ge j' l.length with e | e
      · obtain ⟨y, hy, rfl⟩ := lt j' b e hb
        exact h1 j' y (Nat.zero_le _) hy
      · have := hlen j' b hb
        obtain rfl : j' = l.length := by omega
        exact hz b hb
/-- Is a place 0, the end, or a segment's beginning? (Of the first k segments.) -/
def isK (l : List Seg) (z : Nat) (i : Int) (k : Nat) : Bool := decide (i = 0) || decide (i = (z : Int)) || (l.take k).any fun x => decide ((x.f : Int) = i)
theorem isK_step {l : List Seg} {z : Nat} {i : Int} {k : Nat} {x : Seg} (hx : l[k]? = some x) : isK l z i (k + 1) = (isK l z i k || decide ((x.f : Int) = i)) := by
  obtain ⟨hk, rfl⟩ := List.getElem?_eq_some_iff.1 hx
  unfold isK
  rw [List.take_succ_eq_append_getElem hk, List.any_append]
  simp [Bool.or_assoc]
theorem isK_fin {l : List Seg} {z : Nat} {i : Int} (hc : Chain 0 l z) : Cs.isB (bnds 0 l) i = isK l z i l.length := by
  rw [Bool.eq_iff_iff, Cs.isB_iff]
  unfold isK
  rw [List.take_length]
  simp only [Bool.or_eq_true, decide_eq_true_eq, List.any_eq_true]
  constructor
  · rintro ⟨b, hb, rfl⟩
    obtain ⟨j, hj⟩ := List.mem_iff_getElem?.1 hb
    have hjl := (List.getElem?_eq_some_iff.1 hj).1
    rw [bnds_len] at hjl
    rcases Nat.lt_or_ge j l.length with e | e
    · have hy : l[j]? = some l[j] := List.getElem?_eq_getElem e
      have h1 := (hc.get j _ hy).1.symm.trans hj
      simp only [Option.some.injEq] at h1
      exact .inr ⟨l[j], List.getElem_mem _, by rw [h1]⟩
    · obtain rfl : j = l.length := by omega
      have h1 := hc.last.symm.trans hj
      simp only [Option.some.injEq] at h1
      exact .inl (.inr (by rw [h1]))
  · rintro ((rfl | rfl) | ⟨x, hx, rfl⟩)
    · exact ⟨0, by simp [bnds], rfl⟩
    · exact ⟨z, List.mem_of_getElem? hc.last, rfl⟩
    · obtain ⟨j, hj⟩ := List.mem_iff_getElem?.1 hx
      exact ⟨x.f, List.mem_of_getElem? (hc.get j x hj).1, rfl⟩

end G
end Go.Proofs.YtpgcidpghmoibaaGreatDoor
