/-
  BOUNDARIES, as plain lists: the segments of a cut lie one behind the other, so their ends ascend; the least boundary above a place and the greatest below it, as relations that fix their answer. No condition but those that stand at each fact.
  CURSORS, as memory: a block that holds the boundaries and where it stands. Nothing of the program is run here. Conditions stand at each fact.
  SEGMENTS in memory: the cells of a row of segments; a cut has no more segments than the text has units, and its boundaries ascend. Nothing of the program is run here. Conditions stand at each fact.
  THE LAWS' HELPER sameCut: two lists of segments that begin and end alike, of which a rule cut both or none, are the same. Conditions: both lie in memory, at most 100000 segments.
-/
import Derived.Test.YtpgcidpghmoibaaGreatDoorJ22
import Derived.Test.YtpgcidpghmoibaaGreatDoorJ03
import Derived.Test.YtpgcidpghmoibaaGreatDoorJ27
import Derived.Test.YtpgcidpghmoibaaGreatDoorJ25
import Derived.Deep.QuietTactic
import Derived.BigQuiet
namespace Go.Proofs.YtpgcidpghmoibaaGreatDoor
namespace G

/-- Segments one behind the other, from p to q. -/
def Chain : Nat → List Seg → Nat → Prop
  | p, [], q => p = q
  | p, x :: l, q => x.f = p ∧ p < x.t ∧ Chain x.t l q
theorem CutR.chain {T : List PNode} {Q : List Nat} {s : ByteArray} {k : Nat} {l : List Seg} (h : CutR T Q s k l) : Chain (edge s k) l s.size := by
  induction h with
  | done h => exact edge_end s _ (by omega)
  | @cons k n r l h1 h2 _ ih =>
    have hle := h2.le
    rw [List.length_drop] at hle
    exact ⟨rfl, edge_strict s (by omega) (by omega), ih⟩
theorem CutR.chain0 {T : List PNode} {Q : List Nat} {s : ByteArray} {l : List Seg} (h : CutR T Q s 0 l) : Chain 0 l s.size := by
  have := h.chain
  rwa [edge_zero] at this
theorem Chain.le : ∀ {p : Nat} {l : List Seg} {q : Nat}, Chain p l q → p ≤ q
  | _, [], _, h => Nat.le_of_eq h
  | _, _ :: _, _, h => Nat.le_trans (Nat.le_of_lt h.2.1) h.2.2.le
theorem Chain.above : ∀ {p : Nat} {l : List Seg} {q : Nat}, Chain p l q → ∀ x ∈ l, p < x.t ∧ p ≤ x.f ∧ x.f < x.t ∧ x.t ≤ q
  | _, [], _, _, x, hx => by simp at hx
  | p, y :: l, q, h, x, hx => by
    have hl := h.2.2.le
    rcases List.mem_cons.1 hx with rfl | hx
    · have := h.1
      have := h.2.1
      omega
    · have h1 := h.2.2.above x hx
      have := h.2.1
      omega
/-- The boundaries of a text that is cut so. -/
def bnds (p : Nat) (l : List Seg) : List Nat := p :: l.map (·.t)
theorem bnds_len (p : Nat) (l : List Seg) : (bnds p l).length = l.length + 1 := by simp [bnds]
theorem Chain.asc : ∀ {p : Nat} {l : List Seg} {q : Nat}, Chain p l q → (bnds p l).Pairwise (· < ·)
  | p, [], _, _ => by simp [bnds]
  | p, x :: l, q, h => by
    have ih := h.2.2.asc
    unfold bnds at ih ⊢
    refine List.Pairwise.cons (fun b hb => ?_) ih
    obtain ⟨y, hy, rfl⟩ := List.mem_map.1 hb
    exact (h.above y hy).1
theorem Chain.get : ∀ {p : Nat} {l : List Seg} {q : Nat}, Chain p l q → ∀ (i : Nat) (x : Seg), l[i]? = some x → (bnds p l)[i]? = some x.f ∧ (bnds p l)[i + 1]? = some x.t
  | p, [], _, _, i, x, hx => by simp at hx
  | p, y :: l, q, h, 0, x, hx => by
    simp only [List.getElem?_cons_zero, Option.some.injEq] at hx
    subst hx
    exact ⟨by simp [bnds, h.1], by simp [bnds]⟩
  | p, y :: l, q, h, i + 1, x, hx => by
    simp only [List.getElem?_cons_succ] at hx
    have := h.2.2.get i x hx
    unfold bnds at this ⊢
    simp only [List.map_cons, List.getElem?_cons_succ] at this ⊢
    cases i with
    | zero => exact this
    | succ i => exact this
theorem Chain.last : ∀ {p : Nat} {l : List Seg} {q : Nat}, Chain p l q → (bnds p l)[l.length]? = some q
  | p, [], q, h => by simp [bnds, show p = q from h]
  | p, x :: l, q, h => by
    have := h.2.2.last
    unfold bnds at this ⊢
    simpa using this
theorem asc_lt {B : List Nat} (h : B.Pairwise (· < ·)) {i j x y : Nat} (hij : i < j) (hx : B[i]? = some x) (hy : B[j]? = some y) : x < y := by
  obtain ⟨hi, rfl⟩ := List.getElem?_eq_some_iff.1 hx
  obtain ⟨hj, rfl⟩ := List.getElem?_eq_some_iff.1 hy
  exact List.pairwise_iff_getElem.1 h i j hi hj hij

/-- The least boundary above a place; -1: none. -/
def AboveIs (B : List Nat) (i r : Int) : Prop :=
  (∃ (k x : Nat), B[k]? = some x ∧ i < (x : Int) ∧ (∀ (j y : Nat), j < k → B[j]? = some y → (y : Int) ≤ i) ∧ r = (x : Int)) ∨ ((∀ (j y : Nat), B[j]? = some y → (y : Int) ≤ i) ∧ r = -1)
/-- The greatest boundary below a place; -1: none. -/
def BelowIs (B : List Nat) (i r : Int) : Prop :=
  (∃ (k x : Nat), B[k]? = some x ∧ (x : Int) < i ∧ (∀ (j y : Nat), k < j → B[j]? = some y → i ≤ (y : Int)) ∧ r = (x : Int)) ∨ ((∀ (j y : Nat), B[j]? = some y → i ≤ (y : Int)) ∧ r = -1)
theorem AboveIs.one {B : List Nat} {i r r' : Int} (h : AboveIs B i r) (g : AboveIs B i r') : r = r' := by
  rcases h with ⟨k, x, h1, h2, h3, rfl⟩ | ⟨h1, rfl⟩ <;> rcases g with ⟨k', x', g1, g2, g3, rfl⟩ | ⟨g1, rfl⟩
  · rcases Nat.lt_trichotomy k k' with e | rfl | e
    · have := g3 k x e h1; omega
    · rw [h1] at g1; simp only [Option.some.injEq] at g1; rw [g1]
    · have := h3 k' x' e g1; omega
  · have := g1 k x h1; omega
  · have := h1 k' x' g1; omega
  · rfl
theorem BelowIs.one {B : List Nat} {i r r' : Int} (h : BelowIs B i r) (g : BelowIs B i r') : r = r' := by
  rcases h with ⟨k, x, h1, h2, h3, rfl⟩ | ⟨h1, rfl⟩ <;> rcases g with ⟨k', x', g1, g2, g3, rfl⟩ | ⟨g1, rfl⟩
  · rcases Nat.lt_trichotomy k k' with e | rfl | e
    · have := h3 k' x' e g1; omega
    · rw [h1] at g1; simp only [Option.some.injEq] at g1; rw [g1]
    · have := g3 k x e h1; omega
  · have := g1 k x h1; omega
  · have := h1 k' x' g1; omega
  · rfl
/-- Where a cursor stands that was to go to r. -/
def stand (a : Nat) (r : Int) : Nat := if 0 ≤ r then r.toNat else a
theorem stand_nat (a x : Nat) : stand a (x : Int) = x := by simp [stand]
theorem stand_no (a : Nat) : stand a (-1) = a := by simp [stand]

end G
end Go.Proofs.YtpgcidpghmoibaaGreatDoor

namespace Go.Proofs.YtpgcidpghmoibaaGreatDoor
namespace Cs
open Go.RowKit


/-- Boundaries as a row's values. -/
def bV (B : List Nat) : List Value := B.map fun (x : Nat) => .int .i64 (x : Int)
/-- A cursor at a block: its boundaries, where it stands. (Of the program's or of the reference's: the type is t.) -/
structure Cu (t : TypeId) (w : World) (c : Nat) (v : Value) (B : List Nat) (a : Nat) : Prop where
  blk : w.heap[c]? = some (.cells #[v, .int .i64 (a : Int)] t (0, 0))
  row : w.ownsRow 0 3 1 v B.length (bV B)
  ne : v.ownBlock ≠ some c
/-- What a cursor's boundaries are like. -/
structure Bn (B : List Nat) : Prop where
  asc : B.Pairwise (· < ·)
  zero : B[0]? = some 0
  few : B.length ≤ 1001
theorem Bn.pos {B : List Nat} (h : Bn B) : 0 < B.length := (List.getElem?_eq_some_iff.1 h.zero).1
theorem Cu.same {t : TypeId} {w w' : World} {c : Nat} {v : Value} {B : List Nat} {a : Nat} (h : Cu t w c v B a) (hk : ∀ k, k = c ∨ v.ownBlock = some k → w'.heap[k]? = w.heap[k]?) : Cu t w' c v B a :=
  ⟨(hk c (.inl rfl)).trans h.blk, Rf.own_same h.row (fun k e => hk k (.inr e)), h.ne⟩
theorem Cu.lt {t : TypeId} {w : World} {c : Nat} {v : Value} {B : List Nat} {a : Nat} (h : Cu t w c v B a) : ∀ k, k = c ∨ v.ownBlock = some k → k < w.heap.size := by
  rintro k (rfl | e)
  · exact lt_of_block h.blk
  · exact (h.row.lt k e).2
theorem Cu.below {t : TypeId} {w w' : World} {c : Nat} {v : Value} {B : List Nat} {a : Nat} (h : Cu t w c v B a) (hb : Below w.heap.size w w') : Cu t w' c v B a :=
  h.same fun k e => hb.block k (h.lt k e)
theorem Cu.put {t : TypeId} {w : World} {c : Nat} {v : Value} {B : List Nat} {a : Nat} (h : Cu t w c v B a) (x : Nat) : Cu t (w.setCell ⟨c, 1, none⟩ (.int .i64 (x : Int))) c v B x ∧ Rf.Kept (fun k => k ≠ c) w (w.setCell ⟨c, 1, none⟩ (.int .i64 (x : Int))) := by
  refine ⟨⟨?_, Rf.own_same h.row (fun k e => Rf.blk_ne _ (fun e2 => h.ne (e2 ▸ e))), h.ne⟩, (Rf.Kept.refl _ _).setCell (by simp) _⟩
  rw [Rf.blk_set h.blk]
  rfl
/-- The cells of a cursor that has boundaries. -/
theorem Cu.cells {t : TypeId} {w : World} {c : Nat} {v : Value} {B : List Nat} {a : Nat} (h : Cu t w c v B a) (hn : 0 < B.length) : ∃ g cap, v = .slice (some ⟨g, 0, none⟩) B.length cap ∧ g ≠ c ∧ ∀ (k x : Nat), B[k]? = some x → w.cell? ⟨g, k, none⟩ = some (.int .i64 (x : Int)) := by
  obtain ⟨g, cap, hv, _, _⟩ := h.row.form hn
  subst hv
  refine ⟨g, cap, rfl, fun e => h.ne (by subst e; rfl), fun k x hx => ?_⟩
  have := own_cell1 h.row (k := k) (u := .int .i64 (x : Int)) (by simp [bV, hx])
  exact this

/-- Where goTo n goes. -/
def gotoR (B : List Nat) (n : Int) : Int := if n < 0 then -1 else match B[n.toNat]? with | some x => (x : Int) | none => -1

/-- What a call of a cursor leaves: its answer is r, it stands where r says, nothing else has turned. -/
def MovesTo (t : TypeId) (w : World) (c : Nat) (v : Value) (B : List Nat) (a : Nat) (r : Int) (e : Ending) (w' : World) : Prop :=
  e = .returned (.int .i64 r) ∧ Cu t w' c v B (G.stand a r) ∧ Rf.Kept (fun k => k ≠ c) w w'

/-- Is it a boundary? -/
def isB (B : List Nat) (i : Int) : Bool := B.any fun x => decide ((x : Int) = i)
theorem isB_iff {B : List Nat} {i : Int} : isB B i = true ↔ ∃ x ∈ B, (x : Int) = i := by simp [isB]
theorem bV_snoc (B : List Nat) (x : Nat) : bV (B ++ [x]) = bV B ++ [.int .i64 (x : Int)] := by simp [bV]
/-- A boundary more. -/
theorem Cu.grow {t : TypeId} {w X w2 : World} {c : Nat} {v v' : Value} {B : List Nat} {a x : Nat} (h : Cu t w c v B a) (hX : Rf.Kept (fun _ => True) w X) (hg : X.grownBy w2 v.ownBlock) (hat : Rf.Lies w v v') (hn : w2.ownsRow 0 3 1 v' (B.length + 1) (bV B ++ [.int .i64 (x : Int)])) :
    Cu t (w2.setCell ⟨c, 0, none⟩ v') c v' (B ++ [x]) a := by
  have hc := lt_of_block h.blk
  have hb : w2.heap[c]? = some (.cells #[v, .int .i64 (a : Int)] t (0, 0)) := ((hg.block c (Nat.lt_of_lt_of_le hc hX.size) (fun e => h.ne e.symm)).trans (hX.block c hc trivial)).trans h.blk
  have hne : v'.ownBlock ≠ some c := fun e => by
    rcases hat c e with h1 | h1
    · exact h.ne h1
    · omega
  refine ⟨?_, ?_, hne⟩
  · rw [Rf.blk_set hb]
    rfl
  · rw [bV_snoc, List.length_append]
    exact Rf.own_same hn (fun k e => Rf.blk_ne _ (fun e2 => hne (e2 ▸ e)))

end Cs
end Go.Proofs.YtpgcidpghmoibaaGreatDoor

namespace Go.Proofs.YtpgcidpghmoibaaGreatDoor
namespace Rf
open Go.RowKit
open Cs
open G (PNode)

theorem seg_to {w : World} {la : Option Addr} {n lc : Nat} {l : List G.Seg} (h : w.ownsRow 0 65 3 (.slice la n lc) n (segs l)) {k : Nat} {x : G.Seg} (hx : l[k]? = some x) (hk : k < n) :
    ∃ g, la = some ⟨g, 0, none⟩ ∧ ∀ wr, Below w.heap.size w wr → wr.cell? ⟨g, k * 3, none⟩ = some (.int .i64 (x.f : Int)) ∧ wr.cell? ⟨g, k * 3 + 1, none⟩ = some (.int .i64 (x.t : Int)) ∧ wr.cell? ⟨g, k * 3 + 2, none⟩ = some (.int .i64 x.r) := by
  obtain ⟨g, cap, hv, _, hlt⟩ := h.form (by omega)
  simp only [Value.slice.injEq] at hv
  obtain ⟨rfl, _, rfl⟩ := hv
  refine ⟨g, rfl, fun wr hb => ?_⟩
  have key : ∀ o u, o < 3 → (scell3 x)[o]? = some u → wr.cell? ⟨g, k * 3 + o, none⟩ = some u := by
    intro o u ho hu
    rw [hb.cell (p := ⟨g, k * 3 + o, none⟩) hlt, h.cellAt _ (by omega)]
    rw [← hu]
    exact flat_get scell3 3 (fun _ => rfl) l k o x hx ho
  exact ⟨key 0 _ (by omega) rfl, key 1 _ (by omega) rfl, key 2 _ (by omega) rfl⟩
theorem cut_few {T : List PNode} {Q : List Nat} {s : ByteArray} {k : Nat} {l : List G.Seg} (h : G.CutR T Q s k l) : l.length + k ≤ (G.us s).length := by
  induction h with
  | done h => simp [h]
  | cons h1 h2 h3 ih =>
    simp only [List.length_cons]
    omega
theorem bnds_snoc (p : Nat) (l : List G.Seg) (k : Nat) (x : G.Seg) (hx : l[k]? = some x) : G.bnds p (l.take (k + 1)) = G.bnds p (l.take k) ++ [x.t] := by
  obtain ⟨hk, rfl⟩ := List.getElem?_eq_some_iff.1 hx
  unfold G.bnds
  rw [List.take_succ_eq_append_getElem hk, List.map_append]
  rfl
theorem cut_bn {T : List PNode} {Q : List Nat} {s : ByteArray} {l : List G.Seg} (h : G.CutR T Q s 0 l) (hs : s.size ≤ 1000) : Bn (G.bnds 0 l) := by
  refine ⟨h.chain0.asc, rfl, ?_⟩
  have h1 := cut_few h
  have h2 := U.units_length s
  rw [G.us_len] at h1
  rw [G.bnds_len]
  omega

end Rf
end Go.Proofs.YtpgcidpghmoibaaGreatDoor

namespace Go.Proofs.YtpgcidpghmoibaaGreatDoor
namespace Pr
open Go.RowKit

/-- Segments of two cuts that are the same but for the rules' numbers. -/
def SegEq (l k : List G.Seg) : Prop := l.length = k.length ∧ ∀ (i : Nat) (x y : G.Seg), l[i]? = some x → k[i]? = some y → x.f = y.f ∧ x.t = y.t ∧ (x.r < 0 ↔ y.r < 0)
theorem SegEq.refl (l : List G.Seg) : SegEq l l := ⟨rfl, fun i x y hx hy => by rw [hx] at hy; simp only [Option.some.injEq] at hy; subst hy; exact ⟨rfl, rfl, Iff.rfl⟩⟩

set_option maxRecDepth 100000 in
set_option maxHeartbeats 2000000 in
theorem sameCut_any (w : World) (l k : List G.Seg) (u v : Value) (hu : w.ownsRow 0 65 3 u l.length (Rf.segs l)) (hv : w.ownsRow 0 65 3 v k.length (Rf.segs k)) (hn : l.length ≤ 100000) (he : SegEq l k) :
    Calls Tryz.prog 28 #[u, v] w fun e w' => e = .returned (.bool true) ∧ Below w.heap.size w w' := by
  obtain ⟨hlen, hall⟩ := he
  obtain ⟨ua, uc, rfl⟩ := Rf.own_len hu
  obtain ⟨va, vc, rfl⟩ := Rf.own_len hv
  rw [← hlen] at hv
  rw [← hlen]
  have HL : Hid (l.length = k.length) := hlen
  clear hlen
  generalize hN : l.length = n at *
  have HN : Hid (l.length = n) := hN
  clear hN
  go_enter Tryz.func28, Tryz.ntmps28
  go_wp2
  go_loopw [5] (fun vi wr => ∃ i : Nat, vi = .int .i64 i ∧ i ≤ n ∧ Below w.heap.size w wr) (fun vi _ => n - (intOf vi).toNat)
  case atStart => exact ⟨0, rfl, Nat.zero_le _, Below.refl _ _⟩
  case round =>
    obtain ⟨i, rfl, hi, hbr⟩ := hrel
    by_cases hlt : i < n
    · have hx : l[i]? = some (l[i]'(by rw [HN.out]; exact hlt)) := List.getElem?_eq_getElem _
      generalize l[i]'(by rw [HN.out]; exact hlt) = x at hx
      have hy : k[i]? = some (k[i]'(by rw [← HL.out]; exact hlt)) := List.getElem?_eq_getElem _
      generalize k[i]'(by rw [← HL.out]; exact hlt) = y at hy
      obtain ⟨h1, h2, h3⟩ := hall i x y hx hy
      obtain ⟨g1, rfl, cs1⟩ := Rf.seg_to hu hx hlt
      obtain ⟨g2, rfl, cs2⟩ := Rf.seg_to hv hy hlt
      obtain ⟨a0, a1, a2⟩ := cs1 wr hbr
      obtain ⟨b0, b1, b2⟩ := cs2 wr hbr
      rw [← h1] at b0
      rw [← h2] at b1
      clear cs1 cs2 hx hy h1 h2 hall hu hv
      obtain ⟨xf, xt, xr⟩ := x
      obtain ⟨yf, yt, yr⟩ := y
      simp only at *
      have hii : (i : Int) < (n : Int) := by omega
      have hi0 : (0 : Int) ≤ (i : Int) := by omega
      by_cases hr : xr < 0
      · have hr' : yr < 0 := h3.1 hr
        clear h3
        go_wp2_with fail
        go_quiet (fail)
        go_wp2
        go_roundw
        case rel => exact ⟨i + 1, by go_num, by omega, below_drewN hbr _⟩
        case measure => simp [intOf]; omega
      · have hr' : ¬ yr < 0 := fun h => hr (h3.2 h)
        have hd1 : decide (xr < 0) = false := decide_eq_false hr
        have hd2 : decide (yr < 0) = false := decide_eq_false hr'
        clear h3
        go_wp2_with fail
        go_quiet (fail)
        go_wp2
        go_roundw
        case rel => exact ⟨i + 1, by go_num, by omega, below_drewN hbr _⟩
        case measure => simp [intOf]; omega
    · obtain rfl : i = n := by omega
      go_wp2
      go_ret
      exact ⟨rfl, hbr⟩

end Pr
end Go.Proofs.YtpgcidpghmoibaaGreatDoor
