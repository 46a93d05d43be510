/-
  THE RULES AS STATES, without the program: how states look; each rule's own states, what they match; states that are marked, and all that come behind them without a unit. Nothing of the program is run here. Conditions stand at each fact.
  STATES THAT ARE MARKED, without the program: how marks grow when a state is marked, and all that come behind it without a unit. Nothing of the program is run here. Conditions stand at each fact.
  THE REFERENCE's STATES: the walk of most: how many units a rule matches at most, from the first on. Conditions: states that look as states do; the units lie in memory.
  THE WALK of the reference's Units: the same units, in new memory; or the error's number of a long text and nothing. Conditions: none on a long text; a short one has at most 1000 bytes.
  THE REFERENCE's Match: the walks of place and Match: the longest match at a place. Conditions: rules that were made into states; the text is no longer than a string can be.
  THE REFERENCE's Cut: the walk: the segments of a text, one behind the other. Conditions: rules that were made into states; the text is no longer than a string can be.
  THE FORM OF RULES, without the program: what the source '[a-z]+;' means: one rule of one place. Nothing of the program is run here. No condition.
  WHAT THE SOURCE '[a-z]+;' MATCHES, without the program: small letters, one or more; how 'ab1' is cut by it. Nothing of the program is run here. Conditions: the table of nodes is well made.
  THE BOOK of the statements (the lists that came out, each with its mark), as memory: what it means that a book lies at a block and that every list in it still reads as its owner wrote it; how that stands while other memory is written, while a list or a mark is added, while a list grows into its spare room. Nothing of the program is run here. Conditions stand at each fact.
  THE BOOK of the statements: a book whose blocks are all in a set, after some lists were kept; small facts on memory. Nothing of the program is run here. Conditions stand at each fact.
  CURSORS, as memory: a block that holds the boundaries and where it stands. Nothing of the program is run here. Conditions stand at each fact.
  SEGMENTS in memory: the cells of a row of segments; a cut has no more segments than the text has units, and its boundaries ascend. Nothing of the program is run here. Conditions stand at each fact.
-/
import Derived.Test.YtpgcidpghmoibaaGreatDoorK22
import Derived.Test.YtpgcidpghmoibaaGreatDoorK24
import Derived.Test.YtpgcidpghmoibaaGreatDoorK11
import Derived.Maps.AppendAt
import Derived.Test.YtpgcidpghmoibaaGreatDoorK23
import Derived.Lib.QuietBelow
import Derived.Test.YtpgcidpghmoibaaGreatDoorK09
import Derived.ArgAppend
import Derived.Deep.AppendLies
import Derived.Deep.RegionLaw
import Derived.Test.YtpgcidpghmoibaaGreatDoorK02
namespace Go.Proofs.YtpgcidpghmoibaaGreatDoor
namespace Rf
open G (PNode Lang)
def Shp (T : List PNode) (N : Nat) (x : PState) : Prop :=
  (∀ t ∈ x.next, t < N) ∧ x.next.length ≤ 100000 ∧ (x.node = -1 ∨ ∃ n y t, x.node = ((n : Nat) : Int) ∧ T[n]? = some y ∧ y.kind = 115 ∧ x.next = [t])
theorem Shp.mono {T : List PNode} {N N' : Nat} {x : PState} (h : Shp T N x) (hn : N ≤ N') : Shp T N' x := ⟨fun t ht => Nat.lt_of_lt_of_le (h.1 t ht) hn, h.2⟩
def LenR : MT → MR → Prop
  | .alt ps acc, .many l => l.length = acc.length + ps.length
  | _, _ => True
theorem Md.shape {T : List PNode} (hT : G.WF T) (hp : ∀ x ∈ T, x.parts.length ≤ 100000) {mt : MT} {to : Nat} {L L' : List PState} {r : MR} (h : Md T mt to L r L') : mt.Fit T L.length → to < L.length → (∀ i x, L.length ≤ i → L'[i]? = some x → Shp T L'.length x) ∧ LenR mt r := by
  have snoc : ∀ {L : List PState} {y : PState} {lo : Nat}, (∀ i x, lo ≤ i → L[i]? = some x → Shp T L.length x) → Shp T (L.length + 1) y → ∀ i x, lo ≤ i → (L ++ [y])[i]? = some x → Shp T (L ++ [y]).length x := by
    intro L y lo h hy i x hi hx
    rw [List.length_append, List.length_singleton]
    rcases Nat.lt_trichotomy i L.length with hl | hl | hl
    · rw [List.getElem?_append_left hl] at hx
      exact (h i x hi hx).mono (Nat.le_succ _)
    · subst hl
      simp only [List.getElem?_append_right (Nat.le_refl _), Nat.sub_self, List.getElem?_cons_zero, Option.some.injEq] at hx
      subst hx
      exact hy
    · rw [List.getElem?_eq_none (by simp; omega)] at hx
      cases hx
  induction h with
  | @set n to L x hx hk =>
    intro hf ht
    refine ⟨snoc (fun i x hi hx => ?_) ⟨fun t h => ?_, by simp, .inr ⟨_, x, to, rfl, hx, hk, rfl⟩⟩, trivial⟩
    · rw [List.getElem?_eq_none hi] at hx; cases hx
    · have : t = to := by simpa using h
      omega
  | @seq n to L x r L' hx hk hm ih =>
    intro hf ht
    have hle := G.bare_le hT n
    have hps : ∀ p ∈ x.parts.reverse, p < T.length := fun p hp => by
      have := (hT _ x hx).parts p (by simpa using hp)
      have hf' : n < T.length := hf
      omega
    exact ⟨(ih hps ht).1, by cases r <;> trivial⟩
  | @seqNil to L =>
    intro _ _
    exact ⟨fun i x hi hx => (by rw [List.getElem?_eq_none hi] at hx; cases hx), trivial⟩
  | @seqCons p ps to L t1 L1 r L2 hm1 hm2 ih1 ih2 =>
    intro hf ht
    have f1 := hm1.fine hT (hf p (by simp)) ht
    have f2 := hm2.fine hT (fun q hq => hf q (by simp [hq])) f1.2.1
    have i1 := (ih1 (hf p (by simp)) ht).1
    have i2 := (ih2 (fun q hq => hf q (by simp [hq])) f1.2.1).1
    refine ⟨fun i x hi hx => ?_, by cases r <;> trivial⟩
    rcases Nat.lt_or_ge i L1.length with hl | hl
    · rw [f2.2.2.2 i hl] at hx
      exact (i1 i x hi hx).mono f2.1
    · exact i2 i x hl hx
  | @alt n to L x l L' hx hk hm ih =>
    intro hf ht
    have hle := G.bare_le hT n
    have hps : ∀ p ∈ x.parts, p < T.length := fun p hp => by
      have := (hT _ x hx).parts p hp
      have hf' : n < T.length := hf
      omega
    have hfit : (MT.alt x.parts []).Fit T L.length := ⟨hps, fun a ha => by simp at ha⟩
    have f1 := hm.fine hT hfit ht
    obtain ⟨i1, i2⟩ := ih hfit ht
    have i2' : l.length = [].length + x.parts.length := i2
    have := hp x (List.mem_of_getElem? hx)
    refine ⟨snoc i1 ⟨fun t h => ?_, by simp at i2'; show l.length ≤ _; omega, .inl rfl⟩, trivial⟩
    have h' : ∀ a ∈ l, a < L'.length := f1.2.1
    have := h' t h
    omega
  | @altNil acc to L =>
    intro _ _
    exact ⟨fun i x hi hx => (by rw [List.getElem?_eq_none hi] at hx; cases hx), by simp [LenR]⟩
  | @altCons p ps acc to L t1 L1 r L2 hm1 hm2 ih1 ih2 =>
    intro hf ht
    have f1 := hm1.fine hT (hf.1 p (by simp)) ht
    have hfit : (MT.alt ps (acc ++ [t1])).Fit T L1.length := ⟨fun q hq => hf.1 q (by simp [hq]), fun a ha => by
      rcases List.mem_append.1 ha with ha | ha
      · have := hf.2 a ha; have := f1.1; omega
      · have : a = t1 := by simpa using ha
        subst this
        exact f1.2.1⟩
    have f2 := hm2.fine hT hfit (by have := f1.1; omega)
    have i1 := (ih1 (hf.1 p (by simp)) ht).1
    obtain ⟨i2, i3⟩ := ih2 hfit (by have := f1.1; omega)
    refine ⟨fun i x hi hx => ?_, ?_⟩
    · rcases Nat.lt_or_ge i L1.length with hl | hl
      · rw [f2.2.2.2 i hl] at hx
        exact (i1 i x hi hx).mono f2.1
      · exact i2 i x hl hx
    · cases r with
      | one r => trivial
      | many l =>
        have i3' : l.length = (acc ++ [t1]).length + ps.length := i3
        show l.length = acc.length + (p :: ps).length
        simp at i3' ⊢
        omega
  | @opt n to L x q p L' hx hrs hrep hm ih =>
    intro hf ht
    have hf' : n < T.length := hf
    have hle := G.bare_le hT n
    have hq : q < T.length := by
      have := (G.pl_rep hT (G.bare T n) x.kind (by omega)).2
      rw [hrep] at this
      have : q ≤ G.bare T n := this
      omega
    have f1 := hm.fine hT (show q < T.length from hq) ht
    have i1 := (ih hq ht).1
    refine ⟨snoc i1 ⟨fun t h => ?_, by simp, .inl rfl⟩, trivial⟩
    have h' : p < L'.length := f1.2.1
    have := f1.1
    have ht' : t = p ∨ t = to := by simpa using h
    omega
  | @loop n to L x k q p L' hx hrs hrep hk63 hm ih =>
    intro hf ht
    have hf' : n < T.length := hf
    have hle := G.bare_le hT n
    have hq : q < T.length := by
      have := (G.pl_rep hT (G.bare T n) x.kind (by omega)).2
      rw [hrep] at this
      have : q ≤ G.bare T n := this
      omega
    have f1 := hm.fine hT (show q < T.length from hq) (by simp)
    have i1 := (ih hq (by simp)).1
    have hl0 : (L ++ [(⟨-1, []⟩ : PState)]).length = L.length + 1 := by simp
    rw [hl0] at i1
    have hl1 := f1.1
    rw [hl0] at hl1
    refine ⟨fun i x hi hx => ?_, trivial⟩
    rw [List.length_set]
    by_cases e : L.length = i
    · subst e
      rw [List.getElem?_set_self (by omega)] at hx
      simp only [Option.some.injEq] at hx
      subst hx
      have h' : p < L'.length := f1.2.1
      refine ⟨fun t h => ?_, by simp, .inl rfl⟩
      have ht' : t = p ∨ t = to := by simpa using h
      omega
    · rw [List.getElem?_set_ne e] at hx
      exact i1 i x (by omega) hx
structure RuleAt (T : List PNode) (L : List PState) (q r lo hi : Nat) : Prop where
  con : Con T L (G.lang T q) r 0 lo hi
  le : lo ≤ hi
  pos : 1 ≤ lo
  top : hi ≤ L.length
  beg : r < L.length
structure AllS (T : List PNode) (Q : List Nat) (L : List PState) (B F : List Nat) : Prop where
  shp : ∀ x ∈ L, Shp T L.length x
  zero : L[0]? = some ⟨-1, []⟩
  lenB : B.length = Q.length
  lenF : F.length = Q.length + 1
  rule : ∀ (j q : Nat), Q[j]? = some q → ∃ r lo hi, B[j]? = some r ∧ F[j]? = some lo ∧ F[j + 1]? = some hi ∧ RuleAt T L q r lo hi
theorem Con.later {T : List PNode} {S S' : List PState} {A : Lang} {s to lo hi : Nat} (h : Con T S A s to lo hi) (e : S' = S) : Con T S' A s to lo hi := e ▸ h
theorem AllR.old {T : List PNode} (hT : G.WF T) {qs : List Nat} {L L' : List PState} {B F B' F' : List Nat} (h : AllR T qs L B F L' B' F') : (∀ q ∈ qs, q < T.length) → 1 ≤ L.length → (L.length ≤ L'.length ∧ ∀ i, i < L.length → L'[i]? = L[i]?) ∧ (∃ bs, B' = B ++ bs ∧ bs.length = qs.length) ∧ ∃ fs, F' = F ++ fs ∧ fs.length = qs.length + 1 ∧ fs[0]? = some L.length := by
  induction h with
  | @nil L B F => intro _ _; exact ⟨⟨Nat.le_refl _, fun _ _ => rfl⟩, ⟨[], by simp, rfl⟩, ⟨[L.length], rfl, rfl, rfl⟩⟩
  | @cons q qs L B F r L1 L' B' F' hm hr ih =>
    intro hq h1
    have f1 := hm.fine hT (hq q (by simp)) (by omega)
    obtain ⟨⟨a1, a2⟩, ⟨bs, b1, b2⟩, ⟨fs, c1, c2, c3⟩⟩ := ih (fun p hp => hq p (by simp [hp])) (by have := f1.1; omega)
    refine ⟨⟨by have := f1.1; omega, fun i hi => by rw [a2 i (by have := f1.1; omega)]; exact f1.2.2.2 i hi⟩, ⟨r :: bs, by rw [b1]; simp, by simp [b2]⟩, ⟨L.length :: fs, by rw [c1]; simp, by simp [c2], rfl⟩⟩
theorem AllR.rules {T : List PNode} (hT : G.WF T) (hp : ∀ x ∈ T, x.parts.length ≤ 100000) {qs : List Nat} {L L' : List PState} {B F B' F' : List Nat} (h : AllR T qs L B F L' B' F') : (∀ q ∈ qs, q < T.length) → 1 ≤ L.length → B.length = F.length → (∀ x ∈ L, Shp T L.length x) →
    (∀ x ∈ L', Shp T L'.length x) ∧ ∀ (j q : Nat), qs[j]? = some q → ∃ r lo hi, B'[B.length + j]? = some r ∧ F'[B.length + j]? = some lo ∧ F'[B.length + j + 1]? = some hi ∧ RuleAt T L' q r lo hi := by
  induction h with
  | nil => intro _ _ _ h; exact ⟨h, fun j q hj => by simp at hj⟩
  | @cons q qs L B F r L1 L' B' F' hm hr ih =>
    intro hq h1 hBF hsh
    have hql : q < T.length := hq q (by simp)
    have f1 := hm.fine hT hql (by omega)
    have s1 := hm.shape hT hp hql (by omega)
    have o1 := hr.old hT (fun p hp => hq p (by simp [hp])) (by have := f1.1; omega)
    have hsh1 : ∀ x ∈ L1, Shp T L1.length x := by
      intro x hx
      obtain ⟨i, hi⟩ := List.getElem?_of_mem hx
      rcases Nat.lt_or_ge i L.length with hl | hl
      · rw [f1.2.2.2 i hl] at hi
        exact (hsh x (List.mem_of_getElem? hi)).mono f1.1
      · exact s1.1 i x hl hi
    obtain ⟨i1, i2⟩ := ih (fun p hp => hq p (by simp [hp])) (by have := f1.1; omega) (by simp [hBF]) hsh1
    refine ⟨i1, fun j p hj => ?_⟩
    cases j with
    | zero =>
      simp only [List.getElem?_cons_zero, Option.some.injEq] at hj
      subst hj
      obtain ⟨⟨a1, a2⟩, ⟨bs, b1, b2⟩, ⟨fs, c1, c2, c3⟩⟩ := o1
      have hr' : r < L1.length := f1.2.1
      refine ⟨r, L.length, L1.length, by rw [b1]; simp, by rw [c1, hBF]; simp, ?_, ?_⟩
      · rw [c1, hBF, Nat.add_zero, List.getElem?_append_right (by simp), List.length_append, List.length_singleton, Nat.sub_self]
        exact c3
      · exact ⟨hm.ok (S := L') hT hql (by omega) (fun i _ h2 => a2 i h2), f1.1, h1, a1, by omega⟩
    | succ j =>
      obtain ⟨r', lo, hi, g1, g2, g3, g4⟩ := i2 j p (by simpa using hj)
      simp only [List.length_append, List.length_singleton] at g1 g2 g3
      refine ⟨r', lo, hi, ?_, ?_, ?_, g4⟩
      · rw [← g1]; congr 1; omega
      · rw [← g2]; congr 1; omega
      · rw [← g3]; congr 1; omega
theorem AllR.all {T : List PNode} (hT : G.WF T) (hp : ∀ x ∈ T, x.parts.length ≤ 100000) {Q : List Nat} {L : List PState} {B F : List Nat} (h : AllR T Q [⟨-1, []⟩] [] [] L B F) (hQ : ∀ q ∈ Q, q < T.length) : AllS T Q L B F := by
  obtain ⟨⟨a1, a2⟩, ⟨bs, b1, b2⟩, ⟨fs, c1, c2, c3⟩⟩ := h.old hT hQ (by simp)
  obtain ⟨i1, i2⟩ := h.rules hT hp hQ (by simp) rfl (fun x hx => by
    have : x = ⟨-1, []⟩ := by simpa using hx
    subst this
    exact ⟨fun t h => by simp at h, by simp, .inl rfl⟩)
  refine { shp := i1, zero := by rw [a2 0 (by simp)]; rfl, lenB := by rw [b1]; simpa using b2, lenF := by rw [c1]; simpa using c2, rule := fun j q hj => ?_ }
  have := i2 j q hj
  simpa using this
theorem run_zero {T : List PNode} {L : List PState} (h0 : L[0]? = some ⟨-1, []⟩) {k : Nat} {u : List Int} {e : Nat} (h : Run T L k 0 u e) : u = [] ∧ e = 0 := by
  by_cases he : e = 0
  · subst he
    cases h with
    | here => exact ⟨rfl, rfl⟩
    | free h1 h2 h3 h4 =>
      rw [h0] at h1
      simp only [Option.some.injEq] at h1
      subst h1
      simp at h3
    | eat h1 h2 =>
      rw [h0] at h1
      simp only [Option.some.injEq] at h1
      subst h1
      exact absurd h2 (by show ¬ (-1 : Int) = _; omega)
  · obtain ⟨k', t, _, ht, _⟩ := run_free_inv h0 h (fun e' => he e'.symm)
    simp at ht
theorem RuleAt.out {T : List PNode} {L : List PState} {q r lo hi : Nat} (h0 : L[0]? = some ⟨-1, []⟩) (h : RuleAt T L q r lo hi) {k : Nat} {u : List Int} {e : Nat} (hr : Run T L k r u e) : (lo ≤ e ∧ e < hi) ∨ (e = 0 ∧ G.lang T q u) := by
  by_cases he : lo ≤ e ∧ e < hi
  · exact .inl he
  · obtain ⟨k', u1, u2, _, rfl, hA, hr'⟩ := h.con.sound k u e (by omega) hr
    obtain ⟨rfl, rfl⟩ := run_zero h0 hr'
    exact .inr ⟨rfl, by simpa using hA⟩
theorem Run.first {T : List PNode} {S : List PState} {k s : Nat} {w : List Int} {e : Nat} (h : Run T S k s w e) : ∀ c v, w = c :: v → ∃ k1 m x n y t k2, Run T S k1 s [] m ∧ S[m]? = some x ∧ x.node = ((n : Nat) : Int) ∧ T[n]? = some y ∧ x.next[0]? = some t ∧ G.inV y c = true ∧ Run T S k2 t v e := by
  induction h with
  | here => intro c v h; cases h
  | free h1 h2 h3 _ ih =>
    intro c v hw
    obtain ⟨k1, m, x, n, y, t, k2, g1, g⟩ := ih c v hw
    exact ⟨_, m, x, n, y, t, k2, .free h1 h2 h3 g1, g⟩
  | eat h1 h2 h3 h4 h5 h6 _ =>
    intro c v hw
    simp only [List.cons.injEq] at hw
    obtain ⟨rfl, rfl⟩ := hw
    exact ⟨_, _, _, _, _, _, _, .here, h1, h2, h3, h4, h5, h6⟩
end Rf
end Go.Proofs.YtpgcidpghmoibaaGreatDoor

namespace Go.Proofs.YtpgcidpghmoibaaGreatDoor
namespace Rf
open G (PNode Lang)
def tr (M : List Bool) (i : Nat) : Prop := M[i]? = some true
variable {T : List PNode} {L : List PState} {M M' M2 : List Bool} {s : Nat} {x : PState}
end Rf
end Go.Proofs.YtpgcidpghmoibaaGreatDoor

namespace Go.Proofs.YtpgcidpghmoibaaGreatDoor
namespace Rf
open Go.RowKit
open G (PNode Lang)
structure UAt (w : World) (pu : Option Addr) (us : List Int) (H : Nat) : Prop where
  at' : ∀ (i : Nat) (c : Int), us[i]? = some c → ∃ g off, pu = some ⟨g, off, none⟩ ∧ g < H ∧ w.cell? ⟨g, off + i, none⟩ = some (.int .i64 c)
theorem UAt.below {w w' : World} {pu : Option Addr} {us : List Int} {H : Nat} (h : UAt w pu us H) (hb : Below H w w') : UAt w' pu us H :=
  ⟨fun i c hc => by
    obtain ⟨g, off, h1, h2, h3⟩ := h.at' i c hc
    exact ⟨g, off, h1, h2, (hb.cell (p := ⟨g, off + i, none⟩) h2).trans h3⟩⟩
end Rf
end Go.Proofs.YtpgcidpghmoibaaGreatDoor

namespace Go.Proofs.YtpgcidpghmoibaaGreatDoor
open Go.RowKit
def Apart (u v : Value) : Prop := ∀ k, u.ownBlock = some k → v.ownBlock = some k → False
theorem Apart.symm {u v : Value} (h : Apart u v) : Apart v u := fun k a b => h k b a
theorem Apart.kept {u v : Value} (h : Apart u v) : u.ownBlock = none ∨ u.ownBlock ≠ v.ownBlock := by
  cases e : u.ownBlock with
  | none => exact .inl rfl
  | some k => exact .inr (fun e2 => h k e e2.symm)
theorem Apart.nil (v : Value) : Apart (.slice none 0 0) v := fun k h => by simp [Value.ownBlock] at h
theorem Apart.grown {W : World} {o : Obj} {u u' v : Value} {b e n : Nat} {xs : List Value} (h : Apart u v) (hv : W.ownsRow b e 1 v n xs) (hat : u'.ownBlock = u.ownBlock ∨ u'.ownBlock = some (W.alloc o).heap.size) : Apart u' v := by
  intro k hk hk2
  rcases hat with hat | hat
  · exact h k (hat ▸ hk) hk2
  · rw [hat] at hk
    have := (hv.lt k hk2).2
    simp at hk
    omega
end Go.Proofs.YtpgcidpghmoibaaGreatDoor

namespace Go.Proofs.YtpgcidpghmoibaaGreatDoor
namespace Rf
open Go.RowKit
open G (PNode Lang)
theorem own_cap {w : World} {b e size n c : Nat} {a : Option Addr} {xs : List Value} (h : w.ownsRow b e size (.slice a n c) n xs) : n ≤ c := by
  rcases h.2 with ⟨h1, h2⟩ | ⟨g, cap, cur, h1, _, _, h2, _⟩
  · omega
  · simp only [Value.slice.injEq] at h1
    omega
def MatchV (T : List PNode) (Q : List Nat) (s : ByteArray) (a : Int) (g : G.Seg) : Prop := ∃ k n r, G.UnitAt s a k ∧ G.Long T Q ((G.us s).drop k) n r ∧ g = ⟨G.edge s k, G.edge s (k + n), r⟩
end Rf
end Go.Proofs.YtpgcidpghmoibaaGreatDoor

namespace Go.Proofs.YtpgcidpghmoibaaGreatDoor
namespace Rf
open Go.RowKit
open G (PNode Lang)
def scell3 (g : G.Seg) : List Value := [.int .i64 (g.f : Int), .int .i64 (g.t : Int), .int .i64 g.r]
def segs (l : List G.Seg) : List Value := (l.map scell3).flatten
theorem segs_snoc (l : List G.Seg) (g : G.Seg) : segs (l ++ [g]) = segs l ++ scell3 g := by simp [segs]
theorem infoSeg : (Tryz.prog.info? 65).map (fun i => (i.zero, i.size, i.bytes)) = some (some (.agg #[.int .i64 0, .int .i64 0, .int .i64 0]), 3, 24) := by kernel_rfl
theorem own_sameB {w w' : World} {b e size n : Nat} {v : Value} {xs : List Value} (h : w.ownsRow b e size v n xs) (hk : ∀ k, v.ownBlock = some k → w'.heap[k]? = w.heap[k]?) : w'.ownsRow b e size v n xs := by
  refine ⟨h.1, ?_⟩
  rcases h.2 with h1 | ⟨g, cap, cur, rfl, h2, h3, h4⟩
  · exact .inl h1
  · exact .inr ⟨g, cap, cur, rfl, h2, (hk g rfl).trans h3, h4⟩
end Rf
end Go.Proofs.YtpgcidpghmoibaaGreatDoor

namespace Go.Proofs.YtpgcidpghmoibaaGreatDoor
namespace G
def wordsB : ByteArray := ⟨#[91, 97, 45, 122, 93, 43, 59]⟩
def wT1 : List PNode := [] ++ [mk [] 115 ([] ++ [(97, 122)]) false []]
def wT2 : List PNode := wT1 ++ [mk wT1 43 [] false [0]]
def wT3 : List PNode := wT2 ++ [mk wT2 113 [] false ([] ++ [wT1.length])]
def wordsT : List PNode := wT3 ++ [mk wT3 99 [] false ([] ++ [wT2.length])]
theorem sk0 : skip wordsB 0 = 0 := skip_end (by decide) (by decide)
theorem sk5 : skip wordsB 5 = 5 := skip_end (by decide) (by decide)
theorem sk6 : skip wordsB 6 = 6 := skip_end (by decide) (by decide)
theorem sk7 : skip wordsB 7 = 7 := skip_end (by decide) (by decide)
theorem words_set : R wordsB [] .atom 0 0 [] (.ok 0 5 wT1) := by
  refine .set (by decide) (by decide) ?_
  refine .setTwo (a := 97) (j := 2) (b := 122) (k := 4) (by decide) (by decide) (by decide) (by decide) (by decide) ?_
  exact .setEnd (by decide)
theorem words_seq : R wordsB [] (.seq []) 0 0 [] (.ok wT2.length 6 wT3) := by
  refine .seqRep (n := 0) (j := 5) (T' := wT1) (by rw [sk0]; decide) (by rw [sk0]; exact words_set) (by rw [sk5]; decide) ?_
  rw [sk5]
  have h : R wordsB [] (.seq ([] ++ [wT1.length])) 0 6 wT2 (.ok wT2.length (skip wordsB 6) (wT2 ++ [mk wT2 113 [] false ([] ++ [wT1.length])])) := .seqEnd (by rw [sk6]; decide) (by simp)
  rw [sk6] at h
  exact h
theorem words_expr : R wordsB [] (.expr []) 0 0 [] (.ok wT3.length 6 wordsT) := by
  have h : R wordsB [] (.expr []) 0 0 [] (.ok wT3.length (skip wordsB 6) (wT3 ++ [mk wT3 99 [] false ([] ++ [wT2.length])])) := .exprEnd words_seq (by rw [sk6]; decide)
  rw [sk6] at h
  exact h
theorem words_src : Src wordsB 0 [] [] [] (.ok ([] ++ [wT3.length]) wordsT) := by
  have hS : Stm wordsB [] (skip wordsB 0) [] (.rule wT3.length (skip wordsB 6 + 1) wordsT) := by
    rw [sk0]
    exact .rule (fun h => absurd h.1 (by decide)) words_expr (by rw [sk6]; decide)
  rw [sk6] at hS
  exact .rule (by rw [sk0]; decide) hS (.done (by rw [sk7]; decide))
theorem words_size : sizeOf wordsT ([] ++ [wT3.length]) = 1 := by decide
end G
end Go.Proofs.YtpgcidpghmoibaaGreatDoor

namespace Go.Proofs.YtpgcidpghmoibaaGreatDoor
namespace G
theorem Lang.star_one_iff (x : PNode) (u : List Int) : Lang.star (Lang.one x) u ↔ ∀ c ∈ u, inV x c = true := by
  constructor
  · intro h
    induction h with
    | nil => intro c hc; simp at hc
    | cons ha _ ih =>
      obtain ⟨d, rfl, hd⟩ := ha
      intro c hc
      rcases List.mem_append.1 hc with hc | hc
      · have : c = d := by simpa using hc
        subst this
        exact hd
      · exact ih c hc
  · induction u with
    | nil => intro _; exact .nil
    | cons c u ih =>
      intro h
      have := Lang.star.cons (A := Lang.one x) (u := [c]) ⟨c, rfl, h c (by simp)⟩ (ih (fun d hd => h d (by simp [hd])))
      simpa using this
theorem Lang.plus_one_iff (x : PNode) (u : List Int) : Lang.plus (Lang.one x) u ↔ u ≠ [] ∧ ∀ c ∈ u, inV x c = true := by
  constructor
  · intro h
    refine ⟨?_, (Lang.star_one_iff x u).1 (Lang.plus_star h)⟩
    obtain ⟨a, b, rfl, ⟨c, rfl, _⟩, _⟩ := h
    simp
  · rintro ⟨h1, h2⟩
    rcases Lang.star_plus ((Lang.star_one_iff x u).2 h2) with h | h
    · exact absurd h h1
    · exact h
def lowN : PNode := mk [] 115 ([] ++ [(97, 122)]) false []
theorem inV_low (c : Int) : inV lowN c = true ↔ 97 ≤ c ∧ c ≤ 122 := by
  simp [inV, lowN, mk, runeB, within]
  omega
theorem words_lang (hT : WF wordsT) : lang wordsT wT3.length = Lang.plus (Lang.one lowN) := by
  have h3 : wordsT[wT3.length]? = some (mk wT3 99 [] false ([] ++ [wT2.length])) := rfl
  have h2 : wordsT[wT2.length]? = some (mk wT2 113 [] false ([] ++ [wT1.length])) := rfl
  have h1 : wordsT[wT1.length]? = some (mk wT1 43 [] false [0]) := rfl
  have h0 : wordsT[0]? = some lowN := rfl
  rw [lang_lone hT h3 (by decide) (p := wT2.length) rfl, lang_lone hT h2 (by decide) (p := wT1.length) rfl, lang_rep hT h1 (by decide) (p := 0) rfl, lang_set hT h0 (by decide)]
  rfl
theorem words_iff (hT : WF wordsT) (u : List Int) : lang wordsT wT3.length u ↔ u ≠ [] ∧ ∀ c ∈ u, 97 ≤ c ∧ c ≤ 122 := by
  rw [words_lang hT, Lang.plus_one_iff]
  simp only [inV_low]
def ab1 : ByteArray := ⟨#[97, 98, 49]⟩
theorem ab1_us : us ab1 = [97, 98, 49] := by decide
theorem ab1_e0 : edge ab1 0 = 0 := by decide
theorem ab1_e2 : edge ab1 2 = 2 := by decide
theorem ab1_e3 : edge ab1 3 = 3 := by decide
theorem ab1_long (hT : WF wordsT) : Long wordsT ([] ++ [wT3.length]) [97, 98, 49] 2 0 := by
  refine .inr ⟨by omega, by simp, 0, wT3.length, rfl, rfl, (words_iff hT _).2 ⟨by simp, fun c hc => ?_⟩, fun q hq m h1 h2 => ?_, fun i q hi => by omega⟩
  · simp at hc
    omega
  · have hq' : q = wT3.length := by simpa using hq
    subst hq'
    simp at h2
    have hm : m = 3 := by omega
    subst hm
    intro h
    have := ((words_iff hT _).1 h).2 49 (by simp)
    omega
theorem one_long (hT : WF wordsT) : Long wordsT ([] ++ [wT3.length]) [49] 0 (-1) := by
  refine .inl ⟨rfl, rfl, fun q hq m h1 h2 h => ?_⟩
  have hq' : q = wT3.length := by simpa using hq
  subst hq'
  simp at h2
  have hm : m = 1 := by omega
  subst hm
  have := ((words_iff hT _).1 h).2 49 (by simp)
  omega
theorem ab1_cut (hT : WF wordsT) : CutR wordsT ([] ++ [wT3.length]) ab1 0 [⟨0, 2, 0⟩, ⟨2, 3, -1⟩] := by
  have hl : (us ab1).length = 3 := by rw [ab1_us]; rfl
  have h1 : CutR wordsT ([] ++ [wT3.length]) ab1 2 [⟨edge ab1 2, edge ab1 (2 + max 0 1), -1⟩] := .cons (by rw [hl]; omega) (by rw [ab1_us]; exact one_long hT) (.done (by rw [hl]; rfl))
  have h0 : CutR wordsT ([] ++ [wT3.length]) ab1 0 (⟨edge ab1 0, edge ab1 (0 + max 2 1), 0⟩ :: [⟨edge ab1 2, edge ab1 (2 + max 0 1), -1⟩]) := .cons (by rw [hl]; omega) (by rw [ab1_us]; exact ab1_long hT) h1
  have e : (0 : Nat) + max 2 1 = 2 := by omega
  have e' : (2 : Nat) + max 0 1 = 3 := by omega
  rw [e, e', ab1_e0, ab1_e2, ab1_e3] at h0
  exact h0
end G
end Go.Proofs.YtpgcidpghmoibaaGreatDoor

namespace Go.Proofs.YtpgcidpghmoibaaGreatDoor
open Go.RowKit
theorem own_same {w w' : World} {e size n : Nat} {v : Value} {xs : List Value} (h : w.ownsRow 0 e size v n xs) (hk : ∀ k, v.ownBlock = some k → w'.heap[k]? = w.heap[k]?) : w'.ownsRow 0 e size v n xs := by
  obtain ⟨h1, h2⟩ := h
  refine ⟨h1, ?_⟩
  rcases h2 with h2 | ⟨g, cap, cur, rfl, h3, h4, h5⟩
  · exact .inl h2
  · exact .inr ⟨g, cap, cur, rfl, h3, by rw [hk g rfl]; exact h4, h5⟩
theorem own_zero {w : World} {b e size n : Nat} {v : Value} {xs : List Value} (h : w.ownsRow b e size v n xs) : w.ownsRow 0 e size v n xs := by
  obtain ⟨h1, h2⟩ := h
  refine ⟨h1, ?_⟩
  rcases h2 with h2 | ⟨g, cap, cur, rfl, h3, h4, h5⟩
  · exact .inl h2
  · exact .inr ⟨g, cap, cur, rfl, Nat.zero_le _, h4, h5⟩
structure Kept (p : Nat → Prop) (w w' : World) : Prop where
  os : w'.os = w.os
  tape : w'.tape = w.tape
  output : w'.output = w.output
  size : w.heap.size ≤ w'.heap.size
  block : ∀ k, k < w.heap.size → p k → w'.heap[k]? = w.heap[k]?
theorem Kept.refl (p : Nat → Prop) (w : World) : Kept p w w := ⟨rfl, rfl, rfl, Nat.le_refl _, fun _ _ _ => rfl⟩
theorem Kept.trans {p : Nat → Prop} {a b c : World} (h : Kept p a b) (k : Kept p b c) : Kept p a c :=
  ⟨k.os.trans h.os, k.tape.trans h.tape, k.output.trans h.output, Nat.le_trans h.size k.size, fun i hi hp => (k.block i (Nat.lt_of_lt_of_le hi h.size) hp).trans (h.block i hi hp)⟩
theorem Kept.mono {p q : Nat → Prop} {a b : World} (h : Kept p a b) (hq : ∀ k, k < a.heap.size → q k → p k) : Kept q a b := ⟨h.os, h.tape, h.output, h.size, fun k hk hp => h.block k hk (hq k hk hp)⟩
theorem Kept.alloc {p : Nat → Prop} {a w : World} (h : Kept p a w) (o : Obj) : Kept p a (w.alloc o) :=
  h.trans ⟨rfl, rfl, rfl, by simp, fun k hk _ => Below.heap_alloc _ _ _ hk⟩
theorem Kept.drew {p : Nat → Prop} {a w : World} (h : Kept p a w) : Kept p a w.drew := ⟨h.os, h.tape, h.output, h.size, h.block⟩
theorem Kept.drewN {p : Nat → Prop} {a w : World} (h : Kept p a w) (n : Nat) : Kept p a (w.drewN n) := h.trans ⟨rfl, rfl, rfl, Nat.le_refl _, fun _ _ _ => rfl⟩
theorem Kept.setCell {p : Nat → Prop} {a w : World} (h : Kept p a w) {q : Addr} (hq : ¬ p q.block) (u : Value) : Kept p a (w.setCell q u) :=
  h.trans ⟨rfl, rfl, rfl, by simp [World.setCell], fun k _ hp => Below.heap_setCell _ _ _ _ (fun e => hq (e ▸ hp))⟩
theorem Kept.grown {p : Nat → Prop} {a w w' : World} {row : Option Nat} (h : Kept p a w) (hg : w.grownBy w' row) (hr : ∀ k, row = some k → ¬ p k) : Kept p a w' :=
  h.trans ⟨hg.os, hg.tape, hg.output, hg.size, fun k hk hp => hg.block k hk (fun e => hr k e.symm hp)⟩
theorem Kept.below {p : Nat → Prop} {B : Nat} {a w : World} (h : Kept p a w) (hB : B ≤ a.heap.size) (hp : ∀ k, k < B → p k) : Below B a w :=
  ⟨h.os, h.tape, h.output, h.size, fun k hk => h.block k (by omega) (hp k hk)⟩
theorem Kept.of_below {p : Nat → Prop} {a w : World} (h : Below a.heap.size a w) : Kept p a w := ⟨h.os, h.tape, h.output, h.size, fun k hk _ => h.block k hk⟩
def elT (t : Fin 3) : TypeId := match t with | 0 => 3 | 1 => 21 | 2 => 65
def elS (t : Fin 3) : Nat := match t with | 0 => 1 | 1 => 1 | 2 => 3
def mkOf (t : Fin 3) (m : Int) : List Value := match t with | 0 => [.int .i64 m] | 1 => [.int .i32 m] | 2 => [.int .i64 m, .int .i64 0, .int .i64 0]
def full (t : Fin 3) (n : Nat) (m : Int) : List Value := (List.replicate n (mkOf t m)).flatten
def Good (w : World) (t : Fin 3) (m : Int) (l : Value) : Prop := ∃ n, w.ownsRow 0 (elT t) (elS t) l n (full t n m)
theorem Good.same {w w' : World} {t : Fin 3} {m : Int} {l : Value} (h : Good w t m l) (hk : ∀ k, l.ownBlock = some k → w'.heap[k]? = w.heap[k]?) : Good w' t m l := by
  obtain ⟨n, h⟩ := h
  exact ⟨n, own_same h hk⟩
theorem Good.lt {w : World} {t : Fin 3} {m : Int} {l : Value} (h : Good w t m l) : ∀ k, l.ownBlock = some k → k < w.heap.size := by
  obtain ⟨n, h⟩ := h
  exact fun k hk => (h.lt k hk).2
def Lies (w : World) (u v : Value) : Prop := v.ownBlock = u.ownBlock ∨ ∃ k, v.ownBlock = some k ∧ w.heap.size ≤ k
theorem Lies.not {w : World} {u v : Value} {b : Nat} (h : Lies w u v) (hu : u.ownBlock ≠ some b) (hb : b < w.heap.size) : v.ownBlock ≠ some b := by
  intro e
  rcases h with h | ⟨j, hj, hge⟩
  · exact hu (h ▸ e)
  · rw [hj] at e
    simp only [Option.some.injEq] at e
    omega
section
variable {w X w2 : World} {b : Nat} {mark : Int} {rL rM : Fin 3 → Value} {L : Fin 3 → List Value} {M : Fin 3 → List Int}
end
section
variable {w wr X w2 : World} {b : Nat} {S : Nat → Prop} {c : Nat} {t0 : Fin 3} {l : Value} {n j : Nat} {lv v : Value} {rL rM : Fin 3 → Value} {L : Fin 3 → List Value} {M : Fin 3 → List Int}
end
end Go.Proofs.YtpgcidpghmoibaaGreatDoor

namespace Go.Proofs.YtpgcidpghmoibaaGreatDoor
open Go.RowKit
theorem cell_blk {w : World} {b : Nat} {cs : Array Value} {t : TypeId} (h : w.heap[b]? = some (.cells cs t (0, 0))) (i : Nat) (v : Value) (hv : cs[i]? = some v) : w.cell? ⟨b, i, none⟩ = some v := by
  simp [World.cell?, h, hv]
theorem free_blk {w : World} {b : Nat} {cs : Array Value} {t : TypeId} (h : w.heap[b]? = some (.cells cs t (0, 0))) (i : Nat) : w.frozen? ⟨b, i, none⟩ = false := by
  simp [World.frozen?, h]
theorem lies_of {w : World} {u : Value} {g n cap H : Nat} (h : u.ownBlock = some g ∨ g = H) (hH : w.heap.size ≤ H) : Lies w u (.slice (some ⟨g, 0, none⟩) n cap) := by
  rcases h with h | h
  · exact .inl (by rw [h]; rfl)
  · exact .inr ⟨g, rfl, by omega⟩
end Go.Proofs.YtpgcidpghmoibaaGreatDoor

namespace Go.Proofs.YtpgcidpghmoibaaGreatDoor
namespace Cs
open Go.RowKit
end Cs
end Go.Proofs.YtpgcidpghmoibaaGreatDoor

namespace Go.Proofs.YtpgcidpghmoibaaGreatDoor
namespace Rf
open Go.RowKit
open Cs
open G (PNode)
theorem seg_to {w : World} {la : Option Addr} {n lc : Nat} {l : List G.Seg} (h : w.ownsRow 0 65 3 (.slice la n lc) n (segs l)) {k : Nat} {x : G.Seg} (hx : l[k]? = some x) (hk : k < n) :
    ∃ g, la = some ⟨g, 0, none⟩ ∧ ∀ wr, Below w.heap.size w wr → wr.cell? ⟨g, k * 3, none⟩ = some (.int .i64 (x.f : Int)) ∧ wr.cell? ⟨g, k * 3 + 1, none⟩ = some (.int .i64 (x.t : Int)) ∧ wr.cell? ⟨g, k * 3 + 2, none⟩ = some (.int .i64 x.r) := by
  obtain ⟨g, cap, hv, _, hlt⟩ := h.form (by omega)
  simp only [Value.slice.injEq] at hv
  obtain ⟨rfl, _, rfl⟩ := hv
  refine ⟨g, rfl, fun wr hb => ?_⟩
  have key : ∀ o u, o < 3 → (scell3 x)[o]? = some u → wr.cell? ⟨g, k * 3 + o, none⟩ = some u := by
    intro o u ho hu
    rw [hb.cell (p := ⟨g, k * 3 + o, none⟩) hlt, h.cellAt _ (by omega)]
    rw [← hu]
    exact flat_get scell3 3 (fun _ => rfl) l k o x hx ho
  exact ⟨key 0 _ (by omega) rfl, key 1 _ (by omega) rfl, key 2 _ (by omega) rfl⟩
theorem cut_few {T : List PNode} {Q : List Nat} {s : ByteArray} {k : Nat} {l : List G.Seg} (h : G.CutR T Q s k l) : l.length + k ≤ (G.us s).length := by
  induction h with
  | done h => simp [h]
  | cons h1 h2 h3 ih =>
    simp only [List.length_cons]
    omega
end Rf
end Go.Proofs.YtpgcidpghmoibaaGreatDoor
