/-
  BOUNDARIES, as plain lists: the segments of a cut lie one behind the other, so their ends ascend; the least boundary above a place and the greatest below it, as relations that fix their answer. No condition but those that stand at each fact.
  CURSORS, as memory: a block that holds the boundaries and where it stands. Nothing of the program is run here. Conditions stand at each fact.
  THE REFERENCE's cursors: the walks of above, below, goes, First, Last, Next, Previous, Following, Preceding, IsBoundary. Conditions: the cursor has boundaries, at most 1001, the first is 0.
-/
import Derived.Test.YtpgcidpghmoibaaGreatDoorJ22
import Derived.Test.YtpgcidpghmoibaaGreatDoorJ03
import Derived.Test.YtpgcidpghmoibaaGreatDoorJ27
import Derived.Deep.RegionWith
namespace Go.Proofs.YtpgcidpghmoibaaGreatDoor
namespace G

/-- Segments one behind the other, from p to q. -/
def Chain : Nat → List Seg → Nat → Prop
  | p, [], q => p = q
  | p, x :: l, q => x.f = p ∧ p < x.t ∧ Chain x.t l q
theorem CutR.chain {T : List PNode} {Q : List Nat} {s : ByteArray} {k : Nat} {l : List Seg} (h : CutR T Q s k l) : Chain (edge s k) l s.size := by
  induction h with
  | done h => exact edge_end s _ (by omega)
  | @cons k n r l h1 h2 _ ih =>
    have hle := h2.le
    rw [List.length_drop] at hle
    exact ⟨rfl, edge_strict s (by omega) (by omega), ih⟩
theorem CutR.chain0 {T : List PNode} {Q : List Nat} {s : ByteArray} {l : List Seg} (h : CutR T Q s 0 l) : Chain 0 l s.size := by
  have := h.chain
  rwa [edge_zero] at this
theorem Chain.le : ∀ {p : Nat} {l : List Seg} {q : Nat}, Chain p l q → p ≤ q
  | _, [], _, h => Nat.le_of_eq h
  | _, _ :: _, _, h => Nat.le_trans (Nat.le_of_lt h.2.1) h.2.2.le
theorem Chain.above : ∀ {p : Nat} {l : List Seg} {q : Nat}, Chain p l q → ∀ x ∈ l, p < x.t ∧ p ≤ x.f ∧ x.f < x.t ∧ x.t ≤ q
  | _, [], _, _, x, hx => by simp at hx
  | p, y :: l, q, h, x, hx => by
    have hl := h.2.2.le
    rcases List.mem_cons.1 hx with rfl | hx
    · have := h.1
      have := h.2.1
      omega
    · have h1 := h.2.2.above x hx
      have := h.2.1
      omega
/-- The boundaries of a text that is cut so. -/
def bnds (p : Nat) (l : List Seg) : List Nat := p :: l.map (·.t)
theorem bnds_len (p : Nat) (l : List Seg) : (bnds p l).length = l.length + 1 := by simp [bnds]
theorem Chain.asc : ∀ {p : Nat} {l : List Seg} {q : Nat}, Chain p l q → (bnds p l).Pairwise (· < ·)
  | p, [], _, _ => by simp [bnds]
  | p, x :: l, q, h => by
    have ih := h.2.2.asc
    unfold bnds at ih ⊢
    refine List.Pairwise.cons (fun b hb => ?_) ih
    obtain ⟨y, hy, rfl⟩ := List.mem_map.1 hb
    exact (h.above y hy).1
theorem Chain.get : ∀ {p : Nat} {l : List Seg} {q : Nat}, Chain p l q → ∀ (i : Nat) (x : Seg), l[i]? = some x → (bnds p l)[i]? = some x.f ∧ (bnds p l)[i + 1]? = some x.t
  | p, [], _, _, i, x, hx => by simp at hx
  | p, y :: l, q, h, 0, x, hx => by
    simp only [List.getElem?_cons_zero, Option.some.injEq] at hx
    subst hx
    exact ⟨by simp [bnds, h.1], by simp [bnds]⟩
  | p, y :: l, q, h, i + 1, x, hx => by
    simp only [List.getElem?_cons_succ] at hx
    have := h.2.2.get i x hx
    unfold bnds at this ⊢
    simp only [List.map_cons, List.getElem?_cons_succ] at this ⊢
    cases i with
    | zero => exact this
    | succ i => exact this
theorem Chain.last : ∀ {p : Nat} {l : List Seg} {q : Nat}, Chain p l q → (bnds p l)[l.length]? = some q
  | p, [], q, h => by simp [bnds, show p = q from h]
  | p, x :: l, q, h => by
    have := h.2.2.last
    unfold bnds at this ⊢
    simpa using this
theorem asc_lt {B : List Nat} (h : B.Pairwise (· < ·)) {i j x y : Nat} (hij : i < j) (hx : B[i]? = some x) (hy : B[j]? = some y) : x < y := by
  obtain ⟨hi, rfl⟩ := List.getElem?_eq_some_iff.1 hx
  obtain ⟨hj, rfl⟩ := List.getElem?_eq_some_iff.1 hy
  exact List.pairwise_iff_getElem.1 h i j hi hj hij

/-- The least boundary above a place; -1: none. -/
def AboveIs (B : List Nat) (i r : Int) : Prop :=
  (∃ (k x : Nat), B[k]? = some x ∧ i < (x : Int) ∧ (∀ (j y : Nat), j < k → B[j]? = some y → (y : Int) ≤ i) ∧ r = (x : Int)) ∨ ((∀ (j y : Nat), B[j]? = some y → (y : Int) ≤ i) ∧ r = -1)
/-- The greatest boundary below a place; -1: none. -/
def BelowIs (B : List Nat) (i r : Int) : Prop :=
  (∃ (k x : Nat), B[k]? = some x ∧ (x : Int) < i ∧ (∀ (j y : Nat), k < j → B[j]? = some y → i ≤ (y : Int)) ∧ r = (x : Int)) ∨ ((∀ (j y : Nat), B[j]? = some y → i ≤ (y : Int)) ∧ r = -1)
theorem AboveIs.one {B : List Nat} {i r r' : Int} (h : AboveIs B i r) (g : AboveIs B i r') : r = r' := by
  rcases h with ⟨k, x, h1, h2, h3, rfl⟩ | ⟨h1, rfl⟩ <;> rcases g with ⟨k', x', g1, g2, g3, rfl⟩ | ⟨g1, rfl⟩
  · rcases Nat.lt_trichotomy k k' with e | rfl | e
    · have := g3 k x e h1; omega
    · rw [h1] at g1; simp only [Option.some.injEq] at g1; rw [g1]
    · have := h3 k' x' e g1; omega
  · have := g1 k x h1; omega
  · have := h1 k' x' g1; omega
  · rfl
theorem BelowIs.one {B : List Nat} {i r r' : Int} (h : BelowIs B i r) (g : BelowIs B i r') : r = r' := by
  rcases h with ⟨k, x, h1, h2, h3, rfl⟩ | ⟨h1, rfl⟩ <;> rcases g with ⟨k', x', g1, g2, g3, rfl⟩ | ⟨g1, rfl⟩
  · rcases Nat.lt_trichotomy k k' with e | rfl | e
    · have := h3 k' x' e g1; omega
    · rw [h1] at g1; simp only [Option.some.injEq] at g1; rw [g1]
    · have := g3 k x e h1; omega
  · have := g1 k x h1; omega
  · have := h1 k' x' g1; omega
  · rfl
/-- Where a cursor stands that was to go to r. -/
def stand (a : Nat) (r : Int) : Nat := if 0 ≤ r then r.toNat else a
theorem stand_nat (a x : Nat) : stand a (x : Int) = x := by simp [stand]
theorem stand_no (a : Nat) : stand a (-1) = a := by simp [stand]

end G
end Go.Proofs.YtpgcidpghmoibaaGreatDoor

namespace Go.Proofs.YtpgcidpghmoibaaGreatDoor
namespace Cs
open Go.RowKit


/-- Boundaries as a row's values. -/
def bV (B : List Nat) : List Value := B.map fun (x : Nat) => .int .i64 (x : Int)
/-- A cursor at a block: its boundaries, where it stands. (Of the program's or of the reference's: the type is t.) -/
structure Cu (t : TypeId) (w : World) (c : Nat) (v : Value) (B : List Nat) (a : Nat) : Prop where
  blk : w.heap[c]? = some (.cells #[v, .int .i64 (a : Int)] t (0, 0))
  row : w.ownsRow 0 3 1 v B.length (bV B)
  ne : v.ownBlock ≠ some c
/-- What a cursor's boundaries are like. -/
structure Bn (B : List Nat) : Prop where
  asc : B.Pairwise (· < ·)
  zero : B[0]? = some 0
  few : B.length ≤ 1001
theorem Bn.pos {B : List Nat} (h : Bn B) : 0 < B.length := (List.getElem?_eq_some_iff.1 h.zero).1
theorem Cu.same {t : TypeId} {w w' : World} {c : Nat} {v : Value} {B : List Nat} {a : Nat} (h : Cu t w c v B a) (hk : ∀ k, k = c ∨ v.ownBlock = some k → w'.heap[k]? = w.heap[k]?) : Cu t w' c v B a :=
  ⟨(hk c (.inl rfl)).trans h.blk, Rf.own_same h.row (fun k e => hk k (.inr e)), h.ne⟩
theorem Cu.lt {t : TypeId} {w : World} {c : Nat} {v : Value} {B : List Nat} {a : Nat} (h : Cu t w c v B a) : ∀ k, k = c ∨ v.ownBlock = some k → k < w.heap.size := by
  rintro k (rfl | e)
  · exact lt_of_block h.blk
  · exact (h.row.lt k e).2
theorem Cu.below {t : TypeId} {w w' : World} {c : Nat} {v : Value} {B : List Nat} {a : Nat} (h : Cu t w c v B a) (hb : Below w.heap.size w w') : Cu t w' c v B a :=
  h.same fun k e => hb.block k (h.lt k e)
theorem Cu.put {t : TypeId} {w : World} {c : Nat} {v : Value} {B : List Nat} {a : Nat} (h : Cu t w c v B a) (x : Nat) : Cu t (w.setCell ⟨c, 1, none⟩ (.int .i64 (x : Int))) c v B x ∧ Rf.Kept (fun k => k ≠ c) w (w.setCell ⟨c, 1, none⟩ (.int .i64 (x : Int))) := by
  refine ⟨⟨?_, Rf.own_same h.row (fun k e => Rf.blk_ne _ (fun e2 => h.ne (e2 ▸ e))), h.ne⟩, (Rf.Kept.refl _ _).setCell (by simp) _⟩
  rw [Rf.blk_set h.blk]
  rfl
/-- The cells of a cursor that has boundaries. -/
theorem Cu.cells {t : TypeId} {w : World} {c : Nat} {v : Value} {B : List Nat} {a : Nat} (h : Cu t w c v B a) (hn : 0 < B.length) : ∃ g cap, v = .slice (some ⟨g, 0, none⟩) B.length cap ∧ g ≠ c ∧ ∀ (k x : Nat), B[k]? = some x → w.cell? ⟨g, k, none⟩ = some (.int .i64 (x : Int)) := by
  obtain ⟨g, cap, hv, _, _⟩ := h.row.form hn
  subst hv
  refine ⟨g, cap, rfl, fun e => h.ne (by subst e; rfl), fun k x hx => ?_⟩
  have := own_cell1 h.row (k := k) (u := .int .i64 (x : Int)) (by simp [bV, hx])
  exact this

/-- Where goTo n goes. -/
def gotoR (B : List Nat) (n : Int) : Int := if n < 0 then -1 else match B[n.toNat]? with | some x => (x : Int) | none => -1

/-- What a call of a cursor leaves: its answer is r, it stands where r says, nothing else has turned. -/
def MovesTo (t : TypeId) (w : World) (c : Nat) (v : Value) (B : List Nat) (a : Nat) (r : Int) (e : Ending) (w' : World) : Prop :=
  e = .returned (.int .i64 r) ∧ Cu t w' c v B (G.stand a r) ∧ Rf.Kept (fun k => k ≠ c) w w'

/-- Is it a boundary? -/
def isB (B : List Nat) (i : Int) : Bool := B.any fun x => decide ((x : Int) = i)
theorem isB_iff {B : List Nat} {i : Int} : isB B i = true ↔ ∃ x ∈ B, (x : Int) = i := by simp [isB]
theorem bV_snoc (B : List Nat) (x : Nat) : bV (B ++ [x]) = bV B ++ [.int .i64 (x : Int)] := by simp [bV]
/-- A boundary more. -/
theorem Cu.grow {t : TypeId} {w X w2 : World} {c : Nat} {v v' : Value} {B : List Nat} {a x : Nat} (h : Cu t w c v B a) (hX : Rf.Kept (fun _ => True) w X) (hg : X.grownBy w2 v.ownBlock) (hat : Rf.Lies w v v') (hn : w2.ownsRow 0 3 1 v' (B.length + 1) (bV B ++ [.int .i64 (x : Int)])) :
    Cu t (w2.setCell ⟨c, 0, none⟩ v') c v' (B ++ [x]) a := by
  have hc := lt_of_block h.blk
  have hb : w2.heap[c]? = some (.cells #[v, .int .i64 (a : Int)] t (0, 0)) := ((hg.block c (Nat.lt_of_lt_of_le hc hX.size) (fun e => h.ne e.symm)).trans (hX.block c hc trivial)).trans h.blk
  have hne : v'.ownBlock ≠ some c := fun e => by
    rcases hat c e with h1 | h1
    · exact h.ne h1
    · omega
  refine ⟨?_, ?_, hne⟩
  · rw [Rf.blk_set hb]
    rfl
  · rw [bV_snoc, List.length_append]
    exact Rf.own_same hn (fun k e => Rf.blk_ne _ (fun e2 => hne (e2 ▸ e)))

end Cs
end Go.Proofs.YtpgcidpghmoibaaGreatDoor

namespace Go.Proofs.YtpgcidpghmoibaaGreatDoor
namespace Rf
open Go.RowKit
open Cs

set_option maxRecDepth 100000 in
set_option maxHeartbeats 1000000 in
theorem above_any (w : World) (c : Nat) (v : Value) (B : List Nat) (a : Nat) (h : Cu 84 w c v B a) (hB : Bn B) (i : Int) :
    Calls Tryz.prog 91 #[.pointer (some ⟨c, 0, none⟩), .int .i64 i] w fun e w' => (∃ r, G.AboveIs B i r ∧ e = .returned (.int .i64 r)) ∧ w' = w := by
  have hpos := hB.pos
  have hfew := hB.few
  obtain ⟨g, cap, rfl, hgc, cell⟩ := h.cells hpos
  have c0 := cell_blk h.blk 0 (.slice (some ⟨g, 0, none⟩) B.length cap) rfl
  clear h
  go_enter Tryz.func91, Tryz.ntmps91
  go_wp2
  go_loop [5] (fun vk => ∃ k : Nat, vk = .int .i64 k ∧ k ≤ B.length ∧ ∀ (j y : Nat), j < k → B[j]? = some y → (y : Int) ≤ i) (fun vk => B.length - (intOf vk).toNat)
  case atStart => exact ⟨0, rfl, Nat.zero_le _, fun j y hj => by omega⟩
  case round =>
    obtain ⟨k, rfl, hk, hlo⟩ := hrel
    have HL : Hid _ := hlo
    clear hlo
    by_cases hlt : k < B.length
    · have hx : B[k]? = some B[k] := List.getElem?_eq_getElem hlt
      generalize B[k] = x at hx
      have cx := cell k x hx
      have HX : Hid (B[k]? = some x) := hx
      clear hx cell
      by_cases hgt : i < (x : Int)
      · go_wp2
        go_ret
        exact ⟨⟨(x : Int), .inl ⟨k, x, HX.out, hgt, HL.out, rfl⟩, rfl⟩, rfl⟩
      · go_wp2
        refine ⟨⟨k + 1, by go_num, by omega, fun j y hj hy => ?_⟩, by simp [intOf]; omega⟩
        rcases Nat.lt_or_ge j k with e | e
        · exact HL.out j y e hy
        · obtain rfl : j = k := by omega
          have := HX.out.symm.trans hy
          simp only [Option.some.injEq] at this
          omega
    · obtain rfl : k = B.length := by omega
      go_wp2
      go_ret
      exact ⟨⟨-1, .inr ⟨fun j y hy => HL.out j y (List.getElem?_eq_some_iff.1 hy).1 hy, rfl⟩, rfl⟩, rfl⟩

set_option maxRecDepth 100000 in
set_option maxHeartbeats 1000000 in
theorem below_any (w : World) (c : Nat) (v : Value) (B : List Nat) (a : Nat) (h : Cu 84 w c v B a) (hB : Bn B) (i : Int) :
    Calls Tryz.prog 92 #[.pointer (some ⟨c, 0, none⟩), .int .i64 i] w fun e w' => (∃ r, G.BelowIs B i r ∧ e = .returned (.int .i64 r)) ∧ w' = w := by
  have hpos := hB.pos
  have hfew := hB.few
  obtain ⟨g, cap, rfl, hgc, cell⟩ := h.cells hpos
  have c0 := cell_blk h.blk 0 (.slice (some ⟨g, 0, none⟩) B.length cap) rfl
  clear h
  go_enter Tryz.func92, Tryz.ntmps92
  go_wp2
  go_loop [5] (fun vk => ∃ k : Nat, vk = .int .i64 ((k : Int) - 1) ∧ k ≤ B.length ∧ ∀ (j y : Nat), k ≤ j → B[j]? = some y → i ≤ (y : Int)) (fun vk => (intOf vk + 1).toNat)
  case atStart => exact ⟨B.length, by go_num, Nat.le_refl _, fun j y hj hy => by have := (List.getElem?_eq_some_iff.1 hy).1; omega⟩
  case round =>
    obtain ⟨k, rfl, hk, hhi⟩ := hrel
    have HL : Hid _ := hhi
    clear hhi
    by_cases hlt : 0 < k
    · obtain ⟨m, rfl⟩ : ∃ m, k = m + 1 := ⟨k - 1, by omega⟩
      have hm : m < B.length := by omega
      have he : ((m + 1 : Nat) : Int) - 1 = (m : Int) := by omega
      rw [he]
      have hx : B[m]? = some B[m] := List.getElem?_eq_getElem hm
      generalize B[m] = x at hx
      have cx := cell m x hx
      have HX : Hid (B[m]? = some x) := hx
      clear hx cell
      by_cases hgt : (x : Int) < i
      · go_wp2
        go_ret
        exact ⟨⟨(x : Int), .inl ⟨m, x, HX.out, hgt, HL.out, rfl⟩, rfl⟩, rfl⟩
      · go_wp2
        refine ⟨⟨m, by go_num, by omega, fun j y hj hy => ?_⟩, by first | (simp [intOf]; done) | (simp [intOf]; omega)⟩
        rcases Nat.lt_or_ge m j with e | e
        · exact HL.out j y e hy
        · obtain rfl : j = m := by omega
          have := HX.out.symm.trans hy
          simp only [Option.some.injEq] at this
          omega
    · obtain rfl : k = 0 := by omega
      have he : ((0 : Nat) : Int) - 1 = -1 := rfl
      rw [he]
      go_wp2
      go_ret
      exact ⟨⟨-1, .inr ⟨fun j y hy => HL.out j y (Nat.zero_le _) hy, rfl⟩, rfl⟩, rfl⟩

set_option maxRecDepth 100000 in
set_option maxHeartbeats 1000000 in
theorem goes_any (w : World) (c : Nat) (v : Value) (B : List Nat) (a : Nat) (h : Cu 84 w c v B a) (r : Int) (hr : (∃ x : Nat, r = (x : Int)) ∨ r = -1) :
    Calls Tryz.prog 90 #[.pointer (some ⟨c, 0, none⟩), .int .i64 r] w fun e w' => MovesTo 84 w c v B a r e w' := by
  have hfz := free_blk h.blk 1
  have c1 := cell_blk h.blk 1 (.int .i64 (a : Int)) rfl
  have HR : Hid (Cu 84 w c v B a) := h
  clear h
  rcases hr with ⟨x, rfl⟩ | rfl
  · go_enter Tryz.func90, Tryz.ntmps90
    go_wp2
    go_ret
    exact ⟨rfl, by rw [G.stand_nat]; exact (HR.out.put x).1, (HR.out.put x).2⟩
  · go_enter Tryz.func90, Tryz.ntmps90
    go_wp2
    go_ret
    exact ⟨rfl, by rw [G.stand_no]; exact HR.out, Kept.refl _ _⟩
theorem above_form {B : List Nat} {i r : Int} (h : G.AboveIs B i r) : (∃ x : Nat, r = (x : Int)) ∨ r = -1 := by
  rcases h with ⟨_, x, _, _, _, rfl⟩ | ⟨_, rfl⟩
  · exact .inl ⟨x, rfl⟩
  · exact .inr rfl
theorem below_form {B : List Nat} {i r : Int} (h : G.BelowIs B i r) : (∃ x : Nat, r = (x : Int)) ∨ r = -1 := by
  rcases h with ⟨_, x, _, _, _, rfl⟩ | ⟨_, rfl⟩
  · exact .inl ⟨x, rfl⟩
  · exact .inr rfl

set_option maxRecDepth 100000 in
set_option maxHeartbeats 1000000 in
theorem follow_any (w : World) (c : Nat) (v : Value) (B : List Nat) (a : Nat) (h : Cu 84 w c v B a) (hB : Bn B) (i : Int) :
    Calls Tryz.prog 67 #[.pointer (some ⟨c, 0, none⟩), .int .i64 i] w fun e w' => ∃ r, G.AboveIs B i r ∧ MovesTo 84 w c v B a r e w' := by
  go_enter Tryz.func67, Tryz.ntmps67
  go_wp2_with (first
    | (go_at_call 91; refine (above_any w c v B a h hB i).mono ?_; rintro e w1 ⟨⟨r, hr, rfl⟩, rfl⟩)
    | (go_at_call 90; refine (goes_any _ c v B a h r (above_form hr)).mono ?_; rintro e w2 ⟨rfl, h2, h3⟩))
  go_ret
  exact ⟨r, hr, rfl, h2, h3⟩
set_option maxRecDepth 100000 in
set_option maxHeartbeats 1000000 in
theorem preced_any (w : World) (c : Nat) (v : Value) (B : List Nat) (a : Nat) (h : Cu 84 w c v B a) (hB : Bn B) (i : Int) :
    Calls Tryz.prog 68 #[.pointer (some ⟨c, 0, none⟩), .int .i64 i] w fun e w' => ∃ r, G.BelowIs B i r ∧ MovesTo 84 w c v B a r e w' := by
  go_enter Tryz.func68, Tryz.ntmps68
  go_wp2_with (first
    | (go_at_call 92; refine (below_any w c v B a h hB i).mono ?_; rintro e w1 ⟨⟨r, hr, rfl⟩, rfl⟩)
    | (go_at_call 90; refine (goes_any _ c v B a h r (below_form hr)).mono ?_; rintro e w2 ⟨rfl, h2, h3⟩))
  go_ret
  exact ⟨r, hr, rfl, h2, h3⟩
set_option maxRecDepth 100000 in
set_option maxHeartbeats 1000000 in
theorem next_any (w : World) (c : Nat) (v : Value) (B : List Nat) (a : Nat) (h : Cu 84 w c v B a) (hB : Bn B) :
    Calls Tryz.prog 65 #[.pointer (some ⟨c, 0, none⟩)] w fun e w' => ∃ r, G.AboveIs B (a : Int) r ∧ MovesTo 84 w c v B a r e w' := by
  have c1 := cell_blk h.blk 1 (.int .i64 (a : Int)) rfl
  go_enter Tryz.func65, Tryz.ntmps65
  go_wp2_with (first
    | (go_at_call 91; refine (above_any w c v B a h hB (a : Int)).mono ?_; rintro e w1 ⟨⟨r, hr, rfl⟩, rfl⟩)
    | (go_at_call 90; refine (goes_any _ c v B a h r (above_form hr)).mono ?_; rintro e w2 ⟨rfl, h2, h3⟩))
  go_ret
  exact ⟨r, hr, rfl, h2, h3⟩
set_option maxRecDepth 100000 in
set_option maxHeartbeats 1000000 in
theorem prev_any (w : World) (c : Nat) (v : Value) (B : List Nat) (a : Nat) (h : Cu 84 w c v B a) (hB : Bn B) :
    Calls Tryz.prog 66 #[.pointer (some ⟨c, 0, none⟩)] w fun e w' => ∃ r, G.BelowIs B (a : Int) r ∧ MovesTo 84 w c v B a r e w' := by
  have c1 := cell_blk h.blk 1 (.int .i64 (a : Int)) rfl
  go_enter Tryz.func66, Tryz.ntmps66
  go_wp2_with (first
    | (go_at_call 92; refine (below_any w c v B a h hB (a : Int)).mono ?_; rintro e w1 ⟨⟨r, hr, rfl⟩, rfl⟩)
    | (go_at_call 90; refine (goes_any _ c v B a h r (below_form hr)).mono ?_; rintro e w2 ⟨rfl, h2, h3⟩))
  go_ret
  exact ⟨r, hr, rfl, h2, h3⟩
set_option maxRecDepth 100000 in
set_option maxHeartbeats 1000000 in
theorem first_any (w : World) (c : Nat) (v : Value) (B : List Nat) (a : Nat) (h : Cu 84 w c v B a) :
    Calls Tryz.prog 63 #[.pointer (some ⟨c, 0, none⟩)] w fun e w' => MovesTo 84 w c v B a 0 e w' := by
  go_enter Tryz.func63, Tryz.ntmps63
  go_wp2_with (go_at_call 90; refine (goes_any w c v B a h 0 (.inl ⟨0, rfl⟩)).mono ?_; rintro e w2 ⟨rfl, h2, h3⟩)
  go_ret
  exact ⟨rfl, h2, h3⟩

set_option maxRecDepth 100000 in
set_option maxHeartbeats 1000000 in
theorem isB_any (w : World) (c : Nat) (v : Value) (B : List Nat) (a : Nat) (h : Cu 84 w c v B a) (hB : Bn B) (i : Int) :
    Calls Tryz.prog 69 #[.pointer (some ⟨c, 0, none⟩), .int .i64 i] w fun e w' => e = .returned (.bool (isB B i)) ∧ w' = w := by
  have hpos := hB.pos
  have hfew := hB.few
  obtain ⟨g, cap, rfl, hgc, cell⟩ := h.cells hpos
  have c0 := cell_blk h.blk 0 (.slice (some ⟨g, 0, none⟩) B.length cap) rfl
  clear h
  go_enter Tryz.func69, Tryz.ntmps69
  go_wp2
  go_loop [5] (fun vk => ∃ k : Nat, vk = .int .i64 k ∧ k ≤ B.length ∧ ∀ (j y : Nat), j < k → B[j]? = some y → (y : Int) ≠ i) (fun vk => B.length - (intOf vk).toNat)
  case atStart => exact ⟨0, rfl, Nat.zero_le _, fun j y hj => by omega⟩
  case round =>
    obtain ⟨k, rfl, hk, hlo⟩ := hrel
    have HL : Hid _ := hlo
    clear hlo
    by_cases hlt : k < B.length
    · have hx : B[k]? = some B[k] := List.getElem?_eq_getElem hlt
      generalize B[k] = x at hx
      have cx := cell k x hx
      have HX : Hid (B[k]? = some x) := hx
      clear hx cell
      by_cases hgt : (x : Int) = i
      · have hq : ((x : Int) == i) = true := by simpa using hgt
        have HR : Hid (isB B i = true) := isB_iff.2 ⟨x, List.mem_of_getElem? HX.out, hgt⟩
        clear hgt
        go_wp2
        go_ret
        exact ⟨(congrArg (fun x => Ending.returned (Value.bool x)) HR.out).symm, rfl⟩
      · have hq : ((x : Int) == i) = false := by simpa using hgt
        have HG : Hid _ := hgt
        clear hgt
        go_wp2
        refine ⟨⟨k + 1, by go_num, by omega, fun j y hj hy => ?_⟩, by simp [intOf]; omega⟩
        rcases Nat.lt_or_ge j k with e | e
        · exact HL.out j y e hy
        · obtain rfl : j = k := by omega
          have := HX.out.symm.trans hy
          simp only [Option.some.injEq] at this
          rw [← this]
          exact HG.out
    · obtain rfl : k = B.length := by omega
      have HR : Hid (isB B i = false) := by
        show isB B i = false
        cases e : isB B i
        · rfl
        · obtain ⟨x, hx, he⟩ := isB_iff.1 e
          obtain ⟨j, hj⟩ := List.mem_iff_getElem?.1 hx
          exact absurd he (HL.out j x (List.getElem?_eq_some_iff.1 hj).1 hj)
      go_wp2
      go_ret
      exact ⟨(congrArg (fun x => Ending.returned (Value.bool x)) HR.out).symm, rfl⟩

end Rf
end Go.Proofs.YtpgcidpghmoibaaGreatDoor
