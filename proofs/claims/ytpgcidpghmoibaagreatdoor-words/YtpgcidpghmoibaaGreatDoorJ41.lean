/-
  THE PROGRAM's MACHINE as plain functions: the places of a node match what the node matches; so do the places of each rule. Nothing of the program is run here. Conditions: no more than 128 places.
  THE PROGRAM's STEP, as plain functions: what comes of a state and a unit: which places may take the next one, the first rule of which a match ends; the longest match by steps. Nothing of the program is run here. Conditions: no more than 128 places.
  THE PROGRAM's STEP: the walk of workOut: what comes of a state and a unit, as the plain function says. Conditions: a machine in memory, of no more than 100 places.
-/
import Derived.Test.YtpgcidpghmoibaaGreatDoorJ40
import Derived.Test.YtpgcidpghmoibaaGreatDoorJ21
import Derived.Test.YtpgcidpghmoibaaGreatDoorJ34
namespace Go.Proofs.YtpgcidpghmoibaaGreatDoor
namespace Pr
open G (PNode Lang Gl Pth)

/-- Places were added behind others: they match what A has. -/
structure GlN (A : Lang) (P : List Pl) (r : List Pl × En) : Prop where
  old : ∀ i, i < P.length → r.1[i]? = P[i]?
  ok : OkP r.1
  okf : r.2.f.Ok
  okl : r.2.l.Ok
  gl : Gl (tP r.1) (bP r.1) (hP r.2.f) (hP r.2.l) (r.2.e = true) P.length r.1.length A

theorem tP_same {P P' : List Pl} {i : Nat} (h : P'[i]? = P[i]?) (c : Int) : tP P' i c ↔ tP P i c := by unfold tP; rw [h]
theorem bP_same {P P' : List Pl} {i : Nat} (h : P'[i]? = P[i]?) (j : Nat) : bP P' i j ↔ bP P i j := by unfold bP; rw [h]
theorem not_has {x : PB} {i : Nat} (hi : i < 128) (h : ¬ hP x i) : x.has i = false := by
  cases e : x.has i with
  | false => rfl
  | true => exact absurd ⟨hi, e⟩ h

theorem GlN.seq {A A2 : Lang} {P : List Pl} {s r : List Pl × En} (g : GlN A P s) (g2 : GlN A2 s.1 r) (hl : r.1.length ≤ 128) : GlN (Lang.cat A A2) P (seqStep s r) := by
  have l1 := g.gl.le
  have l2 := g2.gl.le
  have hnot : ∀ i, i < r.1.length → ¬ (P.length ≤ i ∧ i < s.1.length) → s.2.l.has i = false := fun i hi h => not_has (by omega) (fun h' => h (g.gl.lr i h'))
  have hlen : (seqStep s r).1.length = r.1.length := lnkP_len _ _ _ _
  have k1 : Gl (tP (seqStep s r).1) (bP s.1) (hP s.2.f) (hP s.2.l) (s.2.e = true) P.length s.1.length A :=
    g.gl.congr (fun i c h1 h2 => ((tP_lnk _ _ _ i c).trans (tP_same (g2.old i h2) c)).symm) (fun _ _ _ _ => Iff.rfl) (fun _ => Iff.rfl) (fun _ => Iff.rfl) Iff.rfl
  have k2 : Gl (tP (seqStep s r).1) (bP r.1) (hP r.2.f) (hP r.2.l) (r.2.e = true) s.1.length r.1.length A2 :=
    g2.gl.congr (fun i c _ _ => (tP_lnk _ _ _ i c).symm) (fun _ _ _ _ => Iff.rfl) (fun _ => Iff.rfl) (fun _ => Iff.rfl) Iff.rfl
  have hB := fun i j => bP_lnk (x := s.2.l) (y := r.2.f) g2.ok g2.okf hl i j
  have k := k1.cat (B := bP (seqStep s r).1) k2
    (fun i j h1 h2 => by
      show bP (lnk s.2.l r.2.f r.1) i j ↔ _
      rw [hB i j, bP_same (g2.old i h2)]
      constructor
      · rintro (h | ⟨_, h⟩)
        · exact .inl h
        · exact .inr h
      · rintro (h | h)
        · exact .inl h
        · exact .inr ⟨by omega, h⟩)
    (fun i j h1 h2 => by
      show bP (lnk s.2.l r.2.f r.1) i j ↔ _
      rw [hB i j]
      constructor
      · rintro (h | ⟨_, h, _⟩)
        · exact h
        · have := g.gl.lr i h; omega
      · exact .inl)
  refine { old := ?_, ok := g2.ok.lnk g2.okf, okf := ?_, okl := ?_, gl := ?_ }
  · intro i hi
    show (lnk s.2.l r.2.f r.1)[i]? = _
    rw [lnk_not (hnot i (by omega) (by omega)), g2.old i (by omega), g.old i hi]
  · show (if s.2.e = true then s.2.f.or r.2.f else s.2.f).Ok
    split
    · exact g.okf.or g2.okf
    · exact g.okf
  · show (if r.2.e = true then r.2.l.or s.2.l else r.2.l).Ok
    split
    · exact g2.okl.or g.okl
    · exact g2.okl
  · rw [hlen]
    refine k.congr (fun _ _ _ _ => Iff.rfl) (fun _ _ _ _ => Iff.rfl) (fun i => ?_) (fun i => ?_) ?_
    · show _ ↔ hP (if s.2.e = true then s.2.f.or r.2.f else s.2.f) i
      by_cases h : s.2.e = true
      · rw [if_pos h, hP_or g.okf g2.okf]; simp [h]
      · rw [if_neg h]; simp [h]
    · show _ ↔ hP (if r.2.e = true then r.2.l.or s.2.l else r.2.l) i
      by_cases h : r.2.e = true
      · rw [if_pos h, hP_or g2.okl g.okl]; simp [h]
      · rw [if_neg h]; simp [h]
    · show _ ↔ (s.2.e && r.2.e) = true
      simp
theorem GlN.or {A A2 : Lang} {P : List Pl} {s r : List Pl × En} (g : GlN A P s) (g2 : GlN A2 s.1 r) : GlN (fun u => A u ∨ A2 u) P (orStep s r) := by
  have l1 := g.gl.le
  have l2 := g2.gl.le
  have k1 : Gl (tP r.1) (bP s.1) (hP s.2.f) (hP s.2.l) (s.2.e = true) P.length s.1.length A :=
    g.gl.congr (fun i c h1 h2 => (tP_same (g2.old i h2) c).symm) (fun _ _ _ _ => Iff.rfl) (fun _ => Iff.rfl) (fun _ => Iff.rfl) Iff.rfl
  have k := k1.alt (B := bP r.1) g2.gl (fun i j h1 h2 => bP_same (g2.old i h2) j) (fun _ _ _ _ => Iff.rfl)
  refine { old := ?_, ok := g2.ok, okf := g.okf.or g2.okf, okl := g.okl.or g2.okl, gl := ?_ }
  · intro i hi
    show r.1[i]? = _
    rw [g2.old i (by omega), g.old i hi]
  · refine k.congr (fun _ _ _ _ => Iff.rfl) (fun _ _ _ _ => Iff.rfl) (fun i => ?_) (fun i => ?_) ?_
    · exact (hP_or g.okf g2.okf i).symm
    · exact (hP_or g.okl g2.okl i).symm
    · show _ ↔ (s.2.e || r.2.e) = true
      simp
theorem GlN.rep {A : Lang} {P : List Pl} {r : List Pl × En} (g : GlN A P r) (k : Nat) (hl : r.1.length ≤ 128) : GlN (Lang.rep k A) P (repStep k r) := by
  have l1 := g.gl.le
  unfold repStep Lang.rep
  by_cases h63 : k = 63
  · subst h63
    rw [if_pos rfl, if_pos rfl]
    exact { old := g.old, ok := g.ok, okf := g.okf, okl := g.okl, gl := g.gl.opt.congr (fun _ _ _ _ => Iff.rfl) (fun _ _ _ _ => Iff.rfl) (fun _ => Iff.rfl) (fun _ => Iff.rfl) (by simp) }
  · rw [if_neg h63, if_neg h63]
    have hB : ∀ i j, P.length ≤ i → i < r.1.length → (bP (lnk r.2.l r.2.f r.1) i j ↔ bP r.1 i j ∨ (hP r.2.l i ∧ hP r.2.f j)) := fun i j h1 h2 => by
      rw [bP_lnk g.ok g.okf hl]
      constructor
      · rintro (h | ⟨_, h⟩)
        · exact .inl h
        · exact .inr h
      · rintro (h | h)
        · exact .inl h
        · exact .inr ⟨h2, h⟩
    have ht : ∀ i c, P.length ≤ i → i < r.1.length → (tP r.1 i c ↔ tP (lnk r.2.l r.2.f r.1) i c) := fun i c _ _ => (tP_lnk _ _ _ i c).symm
    have hlen : (lnk r.2.l r.2.f r.1).length = r.1.length := lnkP_len _ _ _ _
    have hold : ∀ i, i < P.length → (lnk r.2.l r.2.f r.1)[i]? = P[i]? := fun i hi => by
      rw [lnk_not (not_has (by omega) (fun h => by have := g.gl.lr i h; omega)), g.old i hi]
    by_cases h43 : k = 43
    · subst h43
      rw [if_pos rfl, if_pos rfl]
      refine { old := hold, ok := g.ok.lnk g.okf, okf := g.okf, okl := g.okl, gl := ?_ }
      show Gl _ _ _ _ _ _ (lnk r.2.l r.2.f r.1).length _
      rw [hlen]
      exact (g.gl.plus hB).congr ht (fun _ _ _ _ => Iff.rfl) (fun _ => Iff.rfl) (fun _ => Iff.rfl) Iff.rfl
    · rw [if_neg h43, if_neg h43]
      refine { old := hold, ok := g.ok.lnk g.okf, okf := g.okf, okl := g.okl, gl := ?_ }
      show Gl _ _ _ _ _ _ (lnk r.2.l r.2.f r.1).length _
      rw [hlen]
      exact (g.gl.star hB).congr ht (fun _ _ _ _ => Iff.rfl) (fun _ => Iff.rfl) (fun _ => Iff.rfl) (by simp)
theorem GlN.nil (A : Lang) (b : Bool) (P : List Pl) (hP' : OkP P) (hA : Gl (tP P) (bP P) (fun _ => False) (fun _ => False) (b = true) P.length P.length A) : GlN A P (P, ⟨PB.zero, PB.zero, b⟩) where
  old _ _ := rfl
  ok := hP'
  okf := PB.ok_zero
  okl := PB.ok_zero
  gl := hA.congr (fun _ _ _ _ => Iff.rfl) (fun _ _ _ _ => Iff.rfl) (fun i => ⟨fun h => h.elim, fun h => (hP_zero i h).elim⟩) (fun i => ⟨fun h => h.elim, fun h => (hP_zero i h).elim⟩) Iff.rfl
theorem GlN.place (x : PNode) (P : List Pl) (hP' : OkP P) (hl : P.length < 128) : GlN (Lang.one x) P (P ++ [⟨x, 0, false, ⟨0, 0⟩⟩], ⟨PB.zero.with P.length, PB.zero.with P.length, false⟩) := by
  have hget : (P ++ [(⟨x, 0, false, ⟨0, 0⟩⟩ : Pl)])[P.length]? = some ⟨x, 0, false, ⟨0, 0⟩⟩ := by simp
  refine { old := fun i hi => by rw [List.getElem?_append_left hi], ok := ?_, okf := PB.ok_zero.with _, okl := PB.ok_zero.with _, gl := ?_ }
  · intro p hp
    rcases List.mem_append.1 hp with hp | hp
    · exact hP' p hp
    · have : p = ⟨x, 0, false, ⟨0, 0⟩⟩ := by simpa using hp
      subst this
      exact PB.ok_zero
  · show Gl _ _ _ _ _ _ (P ++ [_]).length _
    rw [List.length_append, List.length_singleton]
    refine (Gl.place (x := x) (fun c => ?_) (fun j => ?_)).congr (fun _ _ _ _ => Iff.rfl) (fun _ _ _ _ => Iff.rfl) (fun i => (hP_one hl i).symm) (fun i => (hP_one hl i).symm) (by simp)
    · unfold tP
      rw [hget]
      simp
    · unfold bP
      rw [hget]
      rintro ⟨p, hp, h⟩
      simp only [Option.some.injEq] at hp
      subst hp
      exact hP_zero j h

theorem foldS_gl {T : List PNode} (hT : G.WF T) (P : List Pl) : ∀ (ps : List Nat) (A : Lang) (s : List Pl × En), (∀ p ∈ ps, p < T.length) → (∀ p ∈ ps, ∀ P', OkP P' → P'.length + (G.lv T p).length ≤ 128 → GlN (G.lang T p) P' (adN T p P')) → GlN A P s → s.1.length + (ps.flatMap (G.lv T)).length ≤ 128 → GlN (Lang.cat A (Lang.seq (ps.map (G.lang T)))) P (foldS T ps s)
  | [], A, s, _, _, g, _ => by
    have e : Lang.cat A (Lang.seq (List.map (G.lang T) [])) = A := Lang.cat_eps A
    rw [e]
    exact g
  | p :: ps, A, s, hp, h, g, hl => by
    simp only [List.flatMap_cons, List.length_append] at hl
    have h1 := h p (by simp) s.1 g.ok (by omega)
    have hlen := adN_len hT p (hp p (by simp)) s.1
    have g1 := g.seq h1 (by omega)
    have ih := foldS_gl hT P ps _ _ (fun q hq => hp q (by simp [hq])) (fun q hq => h q (by simp [hq])) g1 (by
      have e : (seqStep s (adN T p s.1)).1.length = (adN T p s.1).1.length := lnkP_len _ _ _ _
      omega)
    rw [Lang.cat_assoc] at ih
    exact ih
theorem foldO_gl {T : List PNode} (hT : G.WF T) (P : List Pl) : ∀ (ps : List Nat) (A : Lang) (s : List Pl × En), (∀ p ∈ ps, p < T.length) → (∀ p ∈ ps, ∀ P', OkP P' → P'.length + (G.lv T p).length ≤ 128 → GlN (G.lang T p) P' (adN T p P')) → GlN A P s → s.1.length + (ps.flatMap (G.lv T)).length ≤ 128 → GlN (fun u => A u ∨ Lang.alt (ps.map (G.lang T)) u) P (foldO T ps s)
  | [], A, s, _, _, g, _ => by
    have e : (fun u => A u ∨ Lang.alt (List.map (G.lang T) []) u) = A := Lang.ext fun u => by simp [Lang.alt, Lang.none]
    rw [e]
    exact g
  | p :: ps, A, s, hp, h, g, hl => by
    simp only [List.flatMap_cons, List.length_append] at hl
    have h1 := h p (by simp) s.1 g.ok (by omega)
    have hlen := adN_len hT p (hp p (by simp)) s.1
    have g1 := g.or h1
    have ih := foldO_gl hT P ps _ _ (fun q hq => hp q (by simp [hq])) (fun q hq => h q (by simp [hq])) g1 (by
      have e : (orStep s (adN T p s.1)).1.length = (adN T p s.1).1.length := rfl
      omega)
    have e : (fun u => (A u ∨ G.lang T p u) ∨ Lang.alt (List.map (G.lang T) ps) u) = fun u => A u ∨ Lang.alt (List.map (G.lang T) (p :: ps)) u := Lang.ext fun u => by simp [Lang.alt, or_assoc]
    rw [e] at ih
    exact ih

/-- The places of a node match what the node matches. -/
theorem adN_gl {T : List PNode} (hT : G.WF T) : ∀ (n : Nat), n < T.length → ∀ P, OkP P → P.length + (G.lv T n).length ≤ 128 → GlN (G.lang T n) P (adN T n P) := by
  intro n
  induction n using Nat.strongRecOn with
  | ind n ih =>
    intro hn P hP' hl
    have hx : T[n]? = some (T[n]'hn) := List.getElem?_eq_getElem hn
    generalize T[n]'hn = x at hx
    have hps := (hT n x hx).parts
    have hpl : ∀ p ∈ x.parts, p < T.length := fun p hp => by have := hps p hp; omega
    have hih : ∀ p ∈ x.parts, ∀ P', OkP P' → P'.length + (G.lv T p).length ≤ 128 → GlN (G.lang T p) P' (adN T p P') := fun p hp => ih p (hps p hp) (hpl p hp)
    rw [G.lv_step hT hx] at hl
    rw [adN_eq hT hx]
    by_cases h1 : G.lone x = true
    · rw [if_pos h1]
      obtain ⟨p, hp⟩ := G.lone_head h1
      have hk : x.kind ≠ 115 := by
        simp only [G.lone, Bool.and_eq_true, Bool.or_eq_true, decide_eq_true_eq] at h1
        omega
      rw [if_neg hk, hp] at hl
      rw [G.lang_lone hT hx h1 hp, hp]
      exact hih p (by rw [hp]; simp) P hP' (by simpa using hl)
    · rw [if_neg h1]
      by_cases h2 : x.kind = 115
      · rw [if_pos h2] at hl ⊢
        rw [G.lang_set hT hx h2]
        exact GlN.place x P hP' (by simp at hl; omega)
      · rw [if_neg h2] at hl ⊢
        by_cases h3 : x.kind = 113
        · rw [if_pos h3, G.lang_seq hT hx h3]
          have g := foldS_gl hT P x.parts Lang.eps _ hpl hih (GlN.nil Lang.eps true P hP' ((Gl.eps _).congr (fun _ _ _ _ => Iff.rfl) (fun _ _ _ _ => Iff.rfl) (fun _ => Iff.rfl) (fun _ => Iff.rfl) (by simp))) hl
          rw [Lang.eps_cat] at g
          exact g
        · rw [if_neg h3]
          by_cases h4 : x.kind = 99
          · rw [if_pos h4, G.lang_alt hT hx h4]
            have g := foldO_gl hT P x.parts Lang.none _ hpl hih (GlN.nil Lang.none false P hP' ((Gl.void _).congr (fun _ _ _ _ => Iff.rfl) (fun _ _ _ _ => Iff.rfl) (fun _ => Iff.rfl) (fun _ => Iff.rfl) (by simp))) hl
            have e : (fun u => Lang.none u ∨ Lang.alt (x.parts.map (G.lang T)) u) = Lang.alt (x.parts.map (G.lang T)) := Lang.ext fun u => by simp [Lang.none]
            rw [e] at g
            exact g
          · rw [if_neg h4]
            have hk : x.parts.length = 1 ∧ (x.kind = 42 ∨ x.kind = 43 ∨ x.kind = 63) := by
              rcases (hT n x hx).kind with ⟨k, _⟩ | ⟨k, _⟩ | ⟨k', k⟩
              · exact absurd k h2
              · omega
              · exact ⟨k, by omega⟩
            obtain ⟨p, hp⟩ := List.length_eq_one_iff.1 hk.1
            have hr : G.reps x = true := by simp [G.reps]; omega
            rw [G.lang_rep hT hx hr hp, hp]
            rw [hp] at hl
            simp only [List.flatMap_cons, List.flatMap_nil, List.append_nil] at hl
            have hlen := adN_len hT p (hpl p (by rw [hp]; simp)) P
            exact (hih p (by rw [hp]; simp) P hP' hl).rep x.kind (by show (adN T p P).1.length ≤ 128; omega)

end Pr
end Go.Proofs.YtpgcidpghmoibaaGreatDoor

namespace Go.Proofs.YtpgcidpghmoibaaGreatDoor
namespace Pr
open G (PNode Lang Gl Pth)

/-- What comes of a step, of the first k places. -/
def woStep (x : PB) (c : Int) (i : Nat) (p : Pl) (o : PB × Int) : PB × Int :=
  if (x.has i && G.inV p.x c) = true then (o.1.or p.be, if (p.last && decide (o.2 = -1)) = true then (p.rule : Int) else o.2) else o
def woTo (P : List Pl) (x : PB) (c : Int) : Nat → PB × Int
  | 0 => (PB.zero, -1)
  | k + 1 => match P[k]? with | some p => woStep x c k p (woTo P x c k) | none => woTo P x c k
def wo (P : List Pl) (x : PB) (c : Int) : PB × Int := woTo P x c P.length
theorem woTo_step {P : List Pl} {x : PB} {c : Int} {k : Nat} {p : Pl} (h : P[k]? = some p) : woTo P x c (k + 1) = woStep x c k p (woTo P x c k) := by simp [woTo, h]

theorem woTo_ok {P : List Pl} (hP' : OkP P) (x : PB) (c : Int) : ∀ k, (woTo P x c k).1.Ok
  | 0 => PB.ok_zero
  | k + 1 => by
    have ih := woTo_ok hP' x c k
    cases hp : P[k]? with
    | none => simp only [woTo, hp]; exact ih
    | some p =>
      rw [woTo_step hp, woStep]
      split
      · exact ih.or (hP'.at hp)
      · exact ih
/-- Which places come behind. -/
theorem woTo_state {P : List Pl} (hP' : OkP P) (hl : P.length ≤ 128) (x : PB) (c : Int) : ∀ k, k ≤ P.length → ∀ j, hP (woTo P x c k).1 j ↔ ∃ i, i < k ∧ hP x i ∧ tP P i c ∧ bP P i j
  | 0, _, j => by
    constructor
    · intro h; exact absurd h (hP_zero j)
    · rintro ⟨i, h, _⟩; omega
  | k + 1, hk, j => by
    have ih := woTo_state hP' hl x c k (by omega) j
    have hp : P[k]? = some (P[k]'(by omega)) := List.getElem?_eq_getElem _
    generalize P[k]'(by omega) = p at hp
    have hsame : ∀ i, i < k + 1 ↔ i < k ∨ i = k := fun i => by omega
    rw [woTo_step hp, woStep]
    by_cases hc : (x.has k && G.inV p.x c) = true
    · rw [if_pos hc]
      simp only [Bool.and_eq_true] at hc
      show hP ((woTo P x c k).1.or p.be) j ↔ _
      rw [hP_or (woTo_ok hP' x c k) (hP'.at hp), ih]
      constructor
      · rintro (⟨i, h1, h2⟩ | h)
        · exact ⟨i, by omega, h2⟩
        · exact ⟨k, by omega, ⟨by omega, hc.1⟩, ⟨p, hp, hc.2⟩, ⟨p, hp, h⟩⟩
      · rintro ⟨i, h1, h2, h3, h4⟩
        by_cases e : i = k
        · subst e
          obtain ⟨q, hq, h⟩ := h4
          rw [hp] at hq
          simp only [Option.some.injEq] at hq
          subst hq
          exact .inr h
        · exact .inl ⟨i, by omega, h2, h3, h4⟩
    · rw [if_neg hc, ih]
      constructor
      · rintro ⟨i, h1, h2⟩; exact ⟨i, by omega, h2⟩
      · rintro ⟨i, h1, h2, h3, h4⟩
        by_cases e : i = k
        · subst e
          obtain ⟨q, hq, h⟩ := h3
          rw [hp] at hq
          simp only [Option.some.injEq] at hq
          subst hq
          exact absurd (by simp [h2.2, h]) hc
        · exact ⟨i, by omega, h2, h3, h4⟩
/-- The first rule of which a match ends. -/
def Ends (P : List Pl) (x : PB) (c : Int) (i : Nat) (p : Pl) : Prop := P[i]? = some p ∧ hP x i ∧ G.inV p.x c = true ∧ p.last = true
theorem woTo_rule {P : List Pl} (hl : P.length ≤ 128) (x : PB) (c : Int) : ∀ k, k ≤ P.length →
    ((woTo P x c k).2 = -1 ∧ ∀ i p, i < k → ¬ Ends P x c i p) ∨ ∃ i p, i < k ∧ Ends P x c i p ∧ (woTo P x c k).2 = (p.rule : Int) ∧ ∀ i' p', i' < i → ¬ Ends P x c i' p'
  | 0, _ => .inl ⟨rfl, fun i p h => by omega⟩
  | k + 1, hk => by
    have ih := woTo_rule hl x c k (by omega)
    have hp : P[k]? = some (P[k]'(by omega)) := List.getElem?_eq_getElem _
    generalize P[k]'(by omega) = p at hp
    rw [woTo_step hp, woStep]
    by_cases hc : (x.has k && G.inV p.x c) = true
    · rw [if_pos hc]
      simp only [Bool.and_eq_true] at hc
      rcases ih with ⟨h1, h2⟩ | ⟨i, q, h1, h2, h3, h4⟩
      · simp only [h1, decide_true, Bool.and_true]
        by_cases hlast : p.last = true
        · rw [if_pos hlast]
          exact .inr ⟨k, p, by omega, ⟨hp, ⟨by omega, hc.1⟩, hc.2, hlast⟩, rfl, fun i' p' hi' => h2 i' p' hi'⟩
        · rw [if_neg hlast]
          refine .inl ⟨rfl, fun i q hi hE => ?_⟩
          by_cases e : i = k
          · subst e
            have := hE.1
            rw [hp] at this
            simp only [Option.some.injEq] at this
            subst this
            exact hlast hE.2.2.2
          · exact h2 i q (by omega) hE
      · have hne : ¬ (woTo P x c k).2 = -1 := by omega
        simp only [hne, decide_false, Bool.and_false, Bool.false_eq_true, if_false]
        exact .inr ⟨i, q, by omega, h2, h3, h4⟩
    · rw [if_neg hc]
      rcases ih with ⟨h1, h2⟩ | ⟨i, q, h1, h2, h3, h4⟩
      · refine .inl ⟨h1, fun i q hi hE => ?_⟩
        by_cases e : i = k
        · subst e
          have := hE.1
          rw [hp] at this
          simp only [Option.some.injEq] at this
          subst this
          exact hc (by simp [hE.2.1.2, hE.2.2.1])
        · exact h2 i q (by omega) hE
      · exact .inr ⟨i, q, by omega, h2, h3, h4⟩

end Pr
end Go.Proofs.YtpgcidpghmoibaaGreatDoor

namespace Go.Proofs.YtpgcidpghmoibaaGreatDoor
namespace Pr
open Go.RowKit
open Rf (Kept Lies)
open G (PNode)

abbrev stepV (x : PB) (c : Int) : Value := .agg #[.int .u64 x.a, .int .u64 x.c, .int .i32 c]
abbrev outV (o : PB × Int) : Value := .agg #[.int .u64 o.1.a, .int .u64 o.1.c, .int .i64 o.2]

/-- Where workOut stands. -/
structure WInv (w : World) (P : List Pl) (x : PB) (c : Int) (k : Nat) (wr : World) : Prop where
  be : Below w.heap.size w wr
  hs : wr.heap[w.heap.size]? = some (.cells #[.int .u64 x.a, .int .u64 x.c, .int .i32 c] 171 (0, 0))
  hr : wr.heap[w.heap.size + 1]? = some (.cells #[.int .u64 0, .int .u64 0, .int .i64 0] 168 (0, 0))
  ho : wr.heap[w.heap.size + 2]? = some (.cells #[.int .u64 (woTo P x c k).1.a, .int .u64 (woTo P x c k).1.c, .int .i64 (woTo P x c k).2] 168 (0, 0))

theorem WInv.below {w : World} {P : List Pl} {x : PB} {c : Int} {k : Nat} {w1 w2 : World} (h : WInv w P x c k w1) (hb : Below w1.heap.size w1 w2) : WInv w P x c k w2 where
  be := h.be.trans (hb.mono h.be.size)
  hs := (hb.block _ (lt_of_block h.hs)).trans h.hs
  hr := (hb.block _ (lt_of_block h.hr)).trans h.hr
  ho := (hb.block _ (lt_of_block h.ho)).trans h.ho
theorem WInv.skip {w : World} {P : List Pl} {x : PB} {c : Int} {k : Nat} {w1 : World} {p : Pl} (h : WInv w P x c k w1) (hp : P[k]? = some p) (hc : (x.has k && G.inV p.x c) = false) : WInv w P x c (k + 1) w1 where
  be := h.be
  hs := h.hs
  hr := h.hr
  ho := by rw [woTo_step hp, woStep, hc]; exact h.ho
/-- The state is written, and the rule if it is one. -/
theorem WInv.put {w : World} {P : List Pl} {x : PB} {c : Int} {k : Nat} {w1 : World} {p : Pl} (h : WInv w P x c k w1) (hp : P[k]? = some p) (hc : (x.has k && G.inV p.x c) = true) (hno : (p.last && decide ((woTo P x c k).2 = -1)) = false) :
    WInv w P x c (k + 1) ((w1.setCell ⟨w.heap.size + 2, 0, none⟩ (.int .u64 ((woTo P x c k).1.or p.be).a)).setCell ⟨w.heap.size + 2, 1, none⟩ (.int .u64 ((woTo P x c k).1.or p.be).c)) where
  be := (h.be.setCell (by simp) _).setCell (by simp) _
  hs := (Rf.blk_ne _ (by omega)).trans ((Rf.blk_ne _ (by omega)).trans h.hs)
  hr := (Rf.blk_ne _ (by omega)).trans ((Rf.blk_ne _ (by omega)).trans h.hr)
  ho := by
    rw [woTo_step hp, woStep, hc, hno]
    exact Rf.blk_set (Rf.blk_set h.ho 0 _) 1 _
theorem WInv.putR {w : World} {P : List Pl} {x : PB} {c : Int} {k : Nat} {w1 : World} {p : Pl} (h : WInv w P x c k w1) (hp : P[k]? = some p) (hc : (x.has k && G.inV p.x c) = true) (hyes : (p.last && decide ((woTo P x c k).2 = -1)) = true) :
    WInv w P x c (k + 1) (((w1.setCell ⟨w.heap.size + 2, 0, none⟩ (.int .u64 ((woTo P x c k).1.or p.be).a)).setCell ⟨w.heap.size + 2, 1, none⟩ (.int .u64 ((woTo P x c k).1.or p.be).c)).setCell ⟨w.heap.size + 2, 2, none⟩ (.int .i64 (p.rule : Int))) where
  be := ((h.be.setCell (by simp) _).setCell (by simp) _).setCell (by simp) _
  hs := (Rf.blk_ne _ (by omega)).trans ((Rf.blk_ne _ (by omega)).trans ((Rf.blk_ne _ (by omega)).trans h.hs))
  hr := (Rf.blk_ne _ (by omega)).trans ((Rf.blk_ne _ (by omega)).trans ((Rf.blk_ne _ (by omega)).trans h.hr))
  ho := by
    rw [woTo_step hp, woStep, hc, hyes]
    exact Rf.blk_set (Rf.blk_set (Rf.blk_set h.ho 0 _) 1 _) 2 _

set_option maxRecDepth 100000 in
set_option maxHeartbeats 2000000 in
theorem workout_any (w : World) (I : Nat → Prop) (m : Nat) (v : Value) (P : List Pl) (V : List Value) (f : PB) (hM : MaAt w I m v P V f) (hI : ∀ k, I k → k < w.heap.size) (hn : P.length ≤ 100) (x : PB) (c : Int) :
    Calls Tryz.prog 120 #[pv m, stepV x c] w fun e w' => e = .returned (outV (wo P x c)) ∧ Below w.heap.size w w' := by
  obtain ⟨va, vc, hve⟩ := Rf.own_len hM.row
  subst hve
  have hml := lt_of_block hM.blk
  have hbA : Below w.heap.size w (((w.alloc (.cells #[.int .u64 x.a, .int .u64 x.c, .int .i32 c] 171)).alloc (.cells #[.int .u64 0, .int .u64 0, .int .i64 0] 168)).alloc (.cells #[.int .u64 0, .int .u64 0, .int .i64 (-1)] 168)) := (((Below.refl _ w).alloc (Nat.le_refl _) _).alloc (by simp) _).alloc (by simp; omega) _
  have c0 := Rf.cell_blk (hM.below hI hbA).blk 0 (.slice va P.length vc) rfl
  have h0 : WInv w P x c 0 (((w.alloc (.cells #[.int .u64 x.a, .int .u64 x.c, .int .i32 c] 171)).alloc (.cells #[.int .u64 0, .int .u64 0, .int .i64 0] 168)).alloc (.cells #[.int .u64 0, .int .u64 0, .int .i64 (-1)] 168)) := by
    refine ⟨hbA, Rf.blk_alloc _ (Rf.blk_alloc _ (heap_alloc_new w _)), Rf.blk_alloc _ ?_, ?_⟩
    · have := heap_alloc_new (w.alloc (.cells #[.int .u64 x.a, .int .u64 x.c, .int .i32 c] 171)) (.cells #[.int .u64 0, .int .u64 0, .int .i64 0] 168)
      rw [show (w.alloc (.cells #[.int .u64 x.a, .int .u64 x.c, .int .i32 c] 171)).heap.size = w.heap.size + 1 by simp] at this
      exact this
    · have := heap_alloc_new ((w.alloc (.cells #[.int .u64 x.a, .int .u64 x.c, .int .i32 c] 171)).alloc (.cells #[.int .u64 0, .int .u64 0, .int .i64 0] 168)) (.cells #[.int .u64 0, .int .u64 0, .int .i64 (-1)] 168)
      rw [show ((w.alloc (.cells #[.int .u64 x.a, .int .u64 x.c, .int .i32 c] 171)).alloc (.cells #[.int .u64 0, .int .u64 0, .int .i64 0] 168)).heap.size = w.heap.size + 2 by simp] at this
      exact this
  have H0 : Hid _ := h0
  clear h0 hbA
  go_enter Tryz.func120, Tryz.ntmps120
  go_wp2
  clear c0
  go_loopw [6, 7, 14] (fun _ _ vk wr => ∃ k : Nat, vk = .int .i64 k ∧ k ≤ P.length ∧ WInv w P x c k wr) (fun _ _ vk _ => P.length - (intOf vk).toNat)
  case atStart => exact ⟨0, rfl, Nat.zero_le _, H0.out⟩
  case round =>
    obtain ⟨k, rfl, hk, hW⟩ := hrel
    have s0 := Rf.cell_blk hW.hs 0 (.int .u64 x.a) rfl
    have s1 := Rf.cell_blk hW.hs 1 (.int .u64 x.c) rfl
    have s2 := Rf.cell_blk hW.hs 2 (.int .i32 c) rfl
    have hls := lt_of_block hW.ho
    have hls0 : w.heap.size < wr.heap.size := by omega
    have hls1 : w.heap.size + 1 < wr.heap.size := by omega
    by_cases hlt : k < P.length
    · have hM1 := hM.below hI hW.be
      have hp : P[k]? = some (P[k]'hlt) := List.getElem?_eq_getElem hlt
      generalize P[k]'hlt = p at hp
      have hu : V[k]? = some (V[k]'(by rw [hM.len]; exact hlt)) := List.getElem?_eq_getElem _
      generalize V[k]'(by rw [hM.len]; exact hlt) = u at hu
      obtain ⟨rs, hrow, hok, hui⟩ := hM1.sets k p u hp hu
      obtain ⟨ua, uc, hue⟩ := Rf.own_len hrow
      subst hue
      have hrw := hM1.row
      obtain ⟨g, cap, hve, _, _⟩ := hrw.form (by omega)
      simp only [Value.slice.injEq] at hve
      obtain ⟨rfl, _, rfl⟩ := hve
      have d0 : wr.cell? ⟨g, k * 6, none⟩ = some (.slice ua rs.length uc) := own_cell' hrw (k * 6 + 0) ((pcells_get hp hu 0 (by omega)).trans rfl)
      have d1 : wr.cell? ⟨g, k * 6 + 1, none⟩ = some (.bool p.x.other) := own_cell' hrw (k * 6 + 1) ((pcells_get hp hu 1 (by omega)).trans rfl)
      have d2 : wr.cell? ⟨g, k * 6 + 2, none⟩ = some (.int .i64 (p.rule : Int)) := own_cell' hrw (k * 6 + 2) ((pcells_get hp hu 2 (by omega)).trans rfl)
      have d3 : wr.cell? ⟨g, k * 6 + 3, none⟩ = some (.bool p.last) := own_cell' hrw (k * 6 + 3) ((pcells_get hp hu 3 (by omega)).trans rfl)
      have d4 : wr.cell? ⟨g, k * 6 + 4, none⟩ = some (.int .u64 p.be.a) := own_cell' hrw (k * 6 + 4) ((pcells_get hp hu 4 (by omega)).trans rfl)
      have d5 : wr.cell? ⟨g, k * 6 + 5, none⟩ = some (.int .u64 p.be.c) := own_cell' hrw (k * 6 + 5) ((pcells_get hp hu 5 (by omega)).trans rfl)
      have hb1 : Below wr.heap.size wr (wr.alloc (.cells #[.slice ua rs.length uc, .bool p.x.other, .int .i64 (p.rule : Int), .bool p.last, .int .u64 p.be.a, .int .u64 p.be.c] 158)) := (Below.refl _ _).alloc (Nat.le_refl _) _
      have hx1 := heap_alloc_new wr (.cells #[.slice ua rs.length uc, .bool p.x.other, .int .i64 (p.rule : Int), .bool p.last, .int .u64 p.be.a, .int .u64 p.be.c] 158)
      have hW1 := hW.below hb1
      have hrow1 := Rf.own_same (w' := wr.alloc (.cells #[.slice ua rs.length uc, .bool p.x.other, .int .i64 (p.rule : Int), .bool p.last, .int .u64 p.be.a, .int .u64 p.be.c] 158)) hrow (fun j e => hb1.block j (hrow.lt j e).2)
      have HH : Hid _ := And.intro hW1 (And.intro hx1 hrow1)
      clear hW1 hx1 hrow1 hrw
      have hbh := bhas_any (wr.alloc (.cells #[.slice ua rs.length uc, .bool p.x.other, .int .i64 (p.rule : Int), .bool p.last, .int .u64 p.be.a, .int .u64 p.be.c] 158)) x k (by omega)
      cases hxk : x.has k with
      | false =>
        rw [hxk] at hbh
        have HX : Hid _ := hxk
        clear hxk
        go_wp2_with (go_at_call 106; refine hbh.mono ?_; rintro e w2 ⟨rfl, hb2⟩)
        refine ⟨⟨k + 1, by go_num, by omega, (HH.out.1.below hb2).skip hp (by rw [HX.out]; rfl)⟩, by simp [intOf]; omega⟩
      | true =>
        rw [hxk] at hbh
        have HX : Hid _ := hxk
        clear hxk
        cases hic : G.inV p.x c with
        | false =>
          go_wp2_with (first
            | (go_at_call 84; refine hhas.mono ?_; rintro e w3 ⟨rfl, hb3⟩)
            | (go_at_call 106
               refine hbh.mono ?_
               rintro e w2 ⟨rfl, hb2⟩
               have hW2 := HH.out.1.below hb2
               have hx2 := (hb2.block wr.heap.size (by simp)).trans HH.out.2.1
               have hrow2 := Rf.own_same HH.out.2.2 (fun j e => hb2.block j (HH.out.2.2.lt j e).2)
               have e0 := Rf.cell_blk hx2 0 (.slice ua rs.length uc) rfl
               have e1 := Rf.cell_blk hx2 1 (.bool p.x.other) rfl
               have t2 := Rf.cell_blk hW2.hs 2 (.int .i32 c) rfl
               have hhas := has_any w2 p.x.ranges p.x.other (.agg #[.slice ua rs.length uc, .bool p.x.other]) ⟨_, rs, rfl, hrow2, hok⟩ c
               rw [hasB_in, hic] at hhas
               have H2 : Hid _ := And.intro hW2 hx2
               clear hW2 hx2 hrow2))
          refine ⟨⟨k + 1, by go_num, by omega, (H2.out.1.below hb3).skip hp (by rw [hic, Bool.and_false])⟩, by simp [intOf]; omega⟩
        | true =>
          have hcond : (x.has k && G.inV p.x c) = true := by rw [HX.out, hic]; rfl
          have HC : Hid _ := hcond
          clear hcond
          go_wp2_with (first
            | (go_at_call 105
               refine hor.mono ?_
               rintro e w4 ⟨rfl, hb4⟩
               have hW4 := H3.out.1.below hb4
               have hx4 := (hb4.block wr.heap.size (lt_of_block H3.out.2)).trans H3.out.2
               have i2 := Rf.cell_blk hx4 2 (.int .i64 (p.rule : Int)) rfl
               have i3 := Rf.cell_blk hx4 3 (.bool p.last) rfl
               have j0 := Rf.cell_blk hW4.ho 0 (.int .u64 (woTo P x c k).1.a) rfl
               have j1 := Rf.cell_blk hW4.ho 1 (.int .u64 (woTo P x c k).1.c) rfl
               have j2 := Rf.cell_blk hW4.ho 2 (.int .i64 (woTo P x c k).2) rfl
               have fz := fun o => Rf.free_blk hW4.ho o
               have hl4 := lt_of_block hW4.ho
               have hl5 := lt_of_block hx4
               have hne : ¬ wr.heap.size = w.heap.size + 2 := (by omega)
               have H4 : Hid _ := hW4
               clear hW4 hx4)
            | (go_at_call 84
               refine hhas.mono ?_
               rintro e w3 ⟨rfl, hb3⟩
               have hW3 := H2.out.1.below hb3
               have hx3 := (hb3.block wr.heap.size (lt_of_block H2.out.2)).trans H2.out.2
               have g4 := Rf.cell_blk hx3 4 (.int .u64 p.be.a) rfl
               have g5 := Rf.cell_blk hx3 5 (.int .u64 p.be.c) rfl
               have k0 := Rf.cell_blk hW3.ho 0 (.int .u64 (woTo P x c k).1.a) rfl
               have k1 := Rf.cell_blk hW3.ho 1 (.int .u64 (woTo P x c k).1.c) rfl
               have hor := bor_any w3 (woTo P x c k).1 p.be
               have H3 : Hid _ := And.intro hW3 hx3
               clear hW3 hx3)
            | (go_at_call 106
               refine hbh.mono ?_
               rintro e w2 ⟨rfl, hb2⟩
               have hW2 := HH.out.1.below hb2
               have hx2 := (hb2.block wr.heap.size (by simp)).trans HH.out.2.1
               have hrow2 := Rf.own_same HH.out.2.2 (fun j e => hb2.block j (HH.out.2.2.lt j e).2)
               have e0 := Rf.cell_blk hx2 0 (.slice ua rs.length uc) rfl
               have e1 := Rf.cell_blk hx2 1 (.bool p.x.other) rfl
               have t2 := Rf.cell_blk hW2.hs 2 (.int .i32 c) rfl
               have hhas := has_any w2 p.x.ranges p.x.other (.agg #[.slice ua rs.length uc, .bool p.x.other]) ⟨_, rs, rfl, hrow2, hok⟩ c
               rw [hasB_in, hic] at hhas
               have H2 : Hid _ := And.intro hW2 hx2
               clear hW2 hx2 hrow2))
          · exact ⟨⟨k + 1, by go_num, by omega, H4.out.putR hp HC.out (by rw [‹p.last = true›]; simpa using ‹((woTo P x c k).2 == -1) = true›)⟩, by simp [intOf]; omega⟩
          · exact ⟨⟨k + 1, by go_num, by omega, H4.out.put hp HC.out (by rw [‹p.last = true›]; simpa using ‹((woTo P x c k).2 == -1) = false›)⟩, by simp [intOf]; omega⟩
          · exact ⟨⟨k + 1, by go_num, by omega, H4.out.put hp HC.out (by rw [show p.last = false by simpa using ‹¬ p.last = true›]; rfl)⟩, by simp [intOf]; omega⟩
    · have e : k = P.length := by omega
      subst e
      have o0 := Rf.cell_blk hW.ho 0 _ rfl
      have o1 := Rf.cell_blk hW.ho 1 _ rfl
      have o2 := Rf.cell_blk hW.ho 2 _ rfl
      have r0 := Rf.cell_blk hW.hr 0 _ rfl
      have r1 := Rf.cell_blk hW.hr 1 _ rfl
      have r2 := Rf.cell_blk hW.hr 2 _ rfl
      have fr := fun o => Rf.free_blk hW.hr o
      have HW : Hid _ := hW
      clear hW
      go_wp2
      refine bodyPost_ret (v := outV (wo P x c)) (by simp [results, Tryz.results120, go_sem, r0, r1, r2, wo]) rfl ⟨rfl, ?_⟩
      exact ((HW.out.be.setCell (by simp) _).setCell (by simp) _).setCell (by simp) _

end Pr
end Go.Proofs.YtpgcidpghmoibaaGreatDoor
