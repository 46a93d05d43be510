/-
  WHAT RULES MATCH, without the program: languages over numbers; what a node of the table matches; a node that has one part and repeats nothing matches what its part does. Nothing of the program is run here. Conditions stand at each fact.
  PLACES THAT FOLLOW PLACES, without the program: of an expression: the places with which its matches begin and end, which may come behind which; what they match, from part to whole: a sequence, a choice, a repetition. Nothing of the program is run here. Conditions stand at each fact.
  THE LONGEST MATCH, without the program: how many units of a text some rules match at most, from the first on, and which is the first rule that matches these; there is one answer. Nothing of the program is run here. Conditions stand at each fact.
-/
import Derived.Test.YtpgcidpghmoibaaGreatDoorK04
namespace Go.Proofs.YtpgcidpghmoibaaGreatDoor
namespace G
abbrev Lang := List Int → Prop
def Lang.eps : Lang := fun u => u = []
def Lang.none : Lang := fun _ => False
def Lang.cat (A B : Lang) : Lang := fun w => ∃ u v, w = u ++ v ∧ A u ∧ B v
inductive Lang.star (A : Lang) : Lang
  | nil : Lang.star A []
  | cons {u v} : A u → Lang.star A v → Lang.star A (u ++ v)
def Lang.opt (A : Lang) : Lang := fun u => u = [] ∨ A u
def Lang.plus (A : Lang) : Lang := Lang.cat A (Lang.star A)
def Lang.seq : List Lang → Lang
  | [] => Lang.eps
  | A :: l => Lang.cat A (Lang.seq l)
def Lang.alt : List Lang → Lang
  | [] => Lang.none
  | A :: l => fun u => A u ∨ Lang.alt l u
def Lang.one (x : PNode) : Lang := fun u => ∃ c, u = [c] ∧ inV x c = true
def Lang.rep (k : Nat) (A : Lang) : Lang := if k = 63 then Lang.opt A else if k = 43 then Lang.plus A else Lang.star A
theorem Lang.ext {A B : Lang} (h : ∀ u, A u ↔ B u) : A = B := funext fun u => propext (h u)
theorem Lang.cat_eps (A : Lang) : Lang.cat A Lang.eps = A := Lang.ext fun u => by
  constructor
  · rintro ⟨x, y, rfl, h, rfl⟩; simpa using h
  · intro h; exact ⟨u, [], by simp, h, rfl⟩
theorem Lang.eps_cat (A : Lang) : Lang.cat Lang.eps A = A := Lang.ext fun u => by
  constructor
  · rintro ⟨x, y, rfl, rfl, h⟩; simpa using h
  · intro h; exact ⟨[], u, by simp, rfl, h⟩
theorem Lang.cat_assoc (A B C : Lang) : Lang.cat (Lang.cat A B) C = Lang.cat A (Lang.cat B C) := Lang.ext fun u => by
  constructor
  · rintro ⟨x, y, rfl, ⟨p, q, rfl, h1, h2⟩, h3⟩; exact ⟨p, q ++ y, by simp, h1, q, y, rfl, h2, h3⟩
  · rintro ⟨x, y, rfl, h1, p, q, rfl, h2, h3⟩; exact ⟨x ++ p, q, by simp, ⟨x, p, rfl, h1, h2⟩, h3⟩
theorem Lang.seq_append : ∀ (l m : List Lang), Lang.seq (l ++ m) = Lang.cat (Lang.seq l) (Lang.seq m)
  | [], m => (Lang.eps_cat _).symm
  | A :: l, m => by simp only [List.cons_append, Lang.seq, Lang.seq_append l m, Lang.cat_assoc]
theorem Lang.seq_one (A : Lang) : Lang.seq [A] = A := Lang.cat_eps A
theorem Lang.alt_one (A : Lang) : Lang.alt [A] = A := Lang.ext fun u => by simp [Lang.alt, Lang.none]
theorem Lang.alt_iff (l : List Lang) (u : List Int) : Lang.alt l u ↔ ∃ A ∈ l, A u := by
  induction l with
  | nil => simp [Lang.alt, Lang.none]
  | cons A l ih => simp [Lang.alt, ih]
theorem Lang.alt_append (l m : List Lang) (u : List Int) : Lang.alt (l ++ m) u ↔ Lang.alt l u ∨ Lang.alt m u := by
  simp only [Lang.alt_iff, List.mem_append]
  constructor
  · rintro ⟨A, h | h, hu⟩
    · exact .inl ⟨A, h, hu⟩
    · exact .inr ⟨A, h, hu⟩
  · rintro (⟨A, h, hu⟩ | ⟨A, h, hu⟩)
    · exact ⟨A, .inl h, hu⟩
    · exact ⟨A, .inr h, hu⟩
theorem Lang.star_one {A : Lang} {u : List Int} (h : A u) : Lang.star A u := by simpa using Lang.star.cons h (.nil)
theorem Lang.star_append {A : Lang} {u v : List Int} (h : Lang.star A u) (g : Lang.star A v) : Lang.star A (u ++ v) := by
  induction h with
  | nil => simpa using g
  | cons ha _ ih => rw [List.append_assoc]; exact .cons ha ih
theorem Lang.star_mono {A B : Lang} (h : ∀ u, A u → B u) {u : List Int} (g : Lang.star A u) : Lang.star B u := by
  induction g with
  | nil => exact .nil
  | cons ha _ ih => exact .cons (h _ ha) ih
theorem Lang.star_star {A : Lang} {u : List Int} (h : Lang.star (Lang.star A) u) : Lang.star A u := by
  induction h with
  | nil => exact .nil
  | cons ha _ ih => exact Lang.star_append ha ih
theorem Lang.plus_star {A : Lang} {u : List Int} (h : Lang.plus A u) : Lang.star A u := by
  obtain ⟨x, y, rfl, h1, h2⟩ := h
  exact .cons h1 h2
theorem Lang.star_plus {A : Lang} {u : List Int} (h : Lang.star A u) : u = [] ∨ Lang.plus A u := by
  cases h with
  | nil => exact .inl rfl
  | cons ha hs => exact .inr ⟨_, _, rfl, ha, hs⟩
theorem Lang.rep_star {k : Nat} {A : Lang} {u : List Int} (h : Lang.rep k A u) : Lang.star A u := by
  unfold Lang.rep at h
  split at h
  · rcases h with rfl | h
    · exact .nil
    · exact Lang.star_one h
  · split at h
    · exact Lang.plus_star h
    · exact h
theorem Lang.rep_of {k : Nat} {A : Lang} {u : List Int} (h : A u) : Lang.rep k A u := by
  unfold Lang.rep
  split
  · exact .inr h
  · split
    · exact ⟨u, [], by simp, h, .nil⟩
    · exact Lang.star_one h
theorem Lang.rep_rep {k k' : Nat} (h : k = 42 ∨ k = 43 ∨ k = 63) (h' : k' = 42 ∨ k' = 43 ∨ k' = 63) (A : Lang) : Lang.rep k (Lang.rep k' A) = Lang.rep (mix k k') A := by
  have star42 : ∀ B, Lang.rep 42 B = Lang.star B := fun B => rfl
  have plus43 : ∀ B, Lang.rep 43 B = Lang.plus B := fun B => rfl
  have opt63 : ∀ B, Lang.rep 63 B = Lang.opt B := fun B => rfl
  have plusin : ∀ {B : Lang} {u : List Int}, B u → Lang.plus B u := fun {B u} h => ⟨u, [], by simp, h, .nil⟩
  have big : ∀ u, Lang.rep k (Lang.rep k' A) u → Lang.star A u := fun u h => Lang.star_star (Lang.star_mono (fun _ h => Lang.rep_star h) (Lang.rep_star h))
  unfold mix
  split
  · rename_i e
    subst e
    apply Lang.ext
    intro u
    rcases h with rfl | rfl | rfl
    · exact ⟨big u, fun h => Lang.rep_of h⟩
    · rw [plus43, plus43]
      constructor
      · rintro ⟨x, y, rfl, ⟨p, q, rfl, h1, h2⟩, h3⟩
        exact ⟨p, q ++ y, by simp, h1, Lang.star_append h2 (Lang.star_star (Lang.star_mono (fun _ h => Lang.plus_star h) h3))⟩
      · intro h; exact plusin h
    · rw [opt63, opt63]
      constructor
      · rintro (rfl | rfl | h)
        · exact .inl rfl
        · exact .inl rfl
        · exact .inr h
      · intro h; exact .inr h
  · rename_i e
    apply Lang.ext
    intro u
    rw [star42]
    refine ⟨big u, fun hst => ?_⟩
    have starout : ∀ {B : Lang}, (∀ v, A v → B v) → Lang.star B u := fun hB => Lang.star_mono hB hst
    rcases h with rfl | rfl | rfl <;> rcases h' with rfl | rfl | rfl
    all_goals first
      | exact absurd rfl e
      | (rw [star42]; exact starout (fun v hv => Lang.rep_of hv))
      | skip
    · rw [plus43]; exact plusin (by rw [star42]; exact ‹Lang.star A u›)
    · rw [plus43]
      rcases Lang.star_plus ‹Lang.star A u› with rfl | ⟨x, y, rfl, h1, h2⟩
      · exact plusin (by rw [opt63]; exact .inl rfl)
      · exact ⟨x, y, rfl, by rw [opt63]; exact .inr h1, Lang.star_mono (fun v hv => by rw [opt63]; exact .inr hv) h2⟩
    · rw [opt63]; exact .inr (by rw [star42]; exact ‹Lang.star A u›)
    · rw [opt63]
      rcases Lang.star_plus ‹Lang.star A u› with rfl | h
      · exact .inl rfl
      · exact .inr (by rw [plus43]; exact h)
def langF (T : List PNode) : Nat → Nat → Lang
  | 0, _ => Lang.none
  | f + 1, n => match T[n]? with
    | some x => if x.kind = 115 then Lang.one x else if x.kind = 113 then Lang.seq (x.parts.map (langF T f)) else if x.kind = 99 then Lang.alt (x.parts.map (langF T f)) else Lang.rep x.kind (langF T f (x.parts.headD 0))
    | none => Lang.none
theorem langF_fuel {T : List PNode} (hT : WF T) : ∀ (n f g : Nat), n < f → n < g → langF T f n = langF T g n := by
  intro n
  induction n using Nat.strongRecOn with
  | ind n ih =>
    intro f g hf hg
    match f, g, hf, hg with
    | f + 1, g + 1, hf, hg =>
      cases hx : T[n]? with
      | none => simp [langF, hx]
      | some x =>
        simp only [langF, hx]
        have hps := (hT n x hx).parts
        have hm : x.parts.map (langF T f) = x.parts.map (langF T g) := List.map_congr_left fun p hp => ih p (hps p hp) f g (by have := hps p hp; omega) (by have := hps p hp; omega)
        by_cases h1 : x.kind = 115
        · rw [if_pos h1, if_pos h1]
        · rw [if_neg h1, if_neg h1]
          by_cases h2 : x.kind = 113
          · rw [if_pos h2, if_pos h2, hm]
          · rw [if_neg h2, if_neg h2]
            by_cases h3 : x.kind = 99
            · rw [if_pos h3, if_pos h3, hm]
            · rw [if_neg h3, if_neg h3]
              have hk : x.parts.length = 1 := by
                rcases (hT n x hx).kind with ⟨k, _⟩ | ⟨k, _⟩ | ⟨_, k⟩
                · omega
                · omega
                · exact k
              obtain ⟨p, hp⟩ := List.length_eq_one_iff.1 hk
              rw [hp]
              have := hps p (by rw [hp]; simp)
              show Lang.rep _ (langF T f p) = Lang.rep _ (langF T g p)
              rw [ih p this f g (by omega) (by omega)]
def lang (T : List PNode) (n : Nat) : Lang := langF T (n + 1) n
theorem lang_step {T : List PNode} (hT : WF T) {n : Nat} {x : PNode} (hx : T[n]? = some x) : lang T n =
    if x.kind = 115 then Lang.one x else if x.kind = 113 then Lang.seq (x.parts.map (lang T)) else if x.kind = 99 then Lang.alt (x.parts.map (lang T)) else Lang.rep x.kind (lang T (x.parts.headD 0)) := by
  have hps := (hT n x hx).parts
  have hm : x.parts.map (langF T n) = x.parts.map (lang T) := List.map_congr_left fun p hp => langF_fuel hT p _ _ (hps p hp) (Nat.lt_succ_self _)
  rw [lang]
  simp only [langF, hx, hm]
  by_cases h1 : x.kind = 115
  · rw [if_pos h1, if_pos h1]
  · rw [if_neg h1, if_neg h1]
    by_cases h2 : x.kind = 113
    · rw [if_pos h2, if_pos h2]
    · rw [if_neg h2, if_neg h2]
      by_cases h3 : x.kind = 99
      · rw [if_pos h3, if_pos h3]
      · rw [if_neg h3, if_neg h3]
        have hk : x.parts.length = 1 := by
          rcases (hT n x hx).kind with ⟨k, _⟩ | ⟨k, _⟩ | ⟨_, k⟩
          · omega
          · omega
          · exact k
        obtain ⟨p, hp⟩ := List.length_eq_one_iff.1 hk
        rw [hp]
        show Lang.rep _ (langF T n p) = Lang.rep _ (lang T p)
        rw [lang, langF_fuel hT p _ _ (hps p (by rw [hp]; simp)) (Nat.lt_succ_self _)]
theorem lang_set {T : List PNode} (hT : WF T) {n : Nat} {x : PNode} (hx : T[n]? = some x) (h : x.kind = 115) : lang T n = Lang.one x := by rw [lang_step hT hx, if_pos h]
theorem lang_seq {T : List PNode} (hT : WF T) {n : Nat} {x : PNode} (hx : T[n]? = some x) (h : x.kind = 113) : lang T n = Lang.seq (x.parts.map (lang T)) := by rw [lang_step hT hx, if_neg (by omega), if_pos h]
theorem lang_alt {T : List PNode} (hT : WF T) {n : Nat} {x : PNode} (hx : T[n]? = some x) (h : x.kind = 99) : lang T n = Lang.alt (x.parts.map (lang T)) := by rw [lang_step hT hx, if_neg (by omega), if_neg (by omega), if_pos h]
theorem lang_rep {T : List PNode} (hT : WF T) {n p : Nat} {x : PNode} (hx : T[n]? = some x) (h : reps x = true) (hp : x.parts = [p]) : lang T n = Lang.rep x.kind (lang T p) := by
  simp only [reps, Bool.or_eq_true, decide_eq_true_eq] at h
  rw [lang_step hT hx, if_neg (by omega), if_neg (by omega), if_neg (by omega), hp]
  rfl
theorem lang_lone {T : List PNode} (hT : WF T) {n p : Nat} {x : PNode} (hx : T[n]? = some x) (h : lone x = true) (hp : x.parts = [p]) : lang T n = lang T p := by
  simp only [lone, Bool.and_eq_true, Bool.or_eq_true, decide_eq_true_eq] at h
  rcases h.1 with k | k
  · rw [lang_seq hT hx k, hp]; exact Lang.seq_one _
  · rw [lang_alt hT hx k, hp]; exact Lang.alt_one _
theorem lang_bare {T : List PNode} (hT : WF T) : ∀ (n : Nat), lang T (bare T n) = lang T n := by
  intro n
  induction n using Nat.strongRecOn with
  | ind n ih =>
    cases hx : T[n]? with
    | none => simp [bare, bareF, hx]
    | some x =>
      cases hl : lone x with
      | false => rw [bare_end hx hl]
      | true =>
        obtain ⟨p, hp⟩ := lone_head hl
        rw [bare_step hT hx hl hp, ih p ((hT n x hx).parts p (by rw [hp]; simp)), lang_lone hT hx hl hp]
theorem reps_kind {x : PNode} (h : reps x = true) : x.kind = 42 ∨ x.kind = 43 ∨ x.kind = 63 := by
  simp only [reps, Bool.or_eq_true, decide_eq_true_eq] at h
  omega
theorem mix_kind {k k' : Nat} (h : k = 42 ∨ k = 43 ∨ k = 63) : mix k k' = 42 ∨ mix k k' = 43 ∨ mix k k' = 63 := by
  unfold mix
  split
  · exact h
  · exact .inl rfl
theorem lang_reps {T : List PNode} (hT : WF T) : ∀ (n k : Nat), (k = 42 ∨ k = 43 ∨ k = 63) → Lang.rep (rep T k n).1 (lang T (rep T k n).2) = Lang.rep k (lang T n) ∧ ((rep T k n).1 = 42 ∨ (rep T k n).1 = 43 ∨ (rep T k n).1 = 63) := by
  intro n
  induction n using Nat.strongRecOn with
  | ind n ih =>
    intro k hk
    cases hx : T[n]? with
    | none =>
      have e : rep T k n = (k, n) := by simp [rep, repF, hx]
      rw [e]; exact ⟨rfl, hk⟩
    | some x =>
      cases hl : reps x with
      | false => rw [rep_end hx hl]; exact ⟨rfl, hk⟩
      | true =>
        obtain ⟨p, hp, hpn⟩ := reps_one hT hx hl
        have hb := bare_le hT p
        rw [rep_step hT hx hl hp]
        have ih' := ih (bare T p) (by omega) (mix k x.kind) (mix_kind hk)
        rw [lang_bare hT p] at ih'
        rw [ih'.1, lang_rep hT hx hl hp, Lang.rep_rep hk (reps_kind hl)]
        exact ⟨rfl, ih'.2⟩
end G
end Go.Proofs.YtpgcidpghmoibaaGreatDoor

namespace Go.Proofs.YtpgcidpghmoibaaGreatDoor
namespace G
inductive Pth (t : Nat → Int → Prop) (B : Nat → Nat → Prop) : Nat → List Int → Nat → Prop
  | one {i c} : t i c → Pth t B i [c] i
  | cons {i j c u e} : t i c → B i j → Pth t B j u e → Pth t B i (c :: u) e
variable {t t' : Nat → Int → Prop} {B B' B1 B2 : Nat → Nat → Prop}
theorem Pth.ne {i : Nat} {u : List Int} {e : Nat} (h : Pth t B i u e) : u ≠ [] := by cases h <;> simp
theorem Pth.join {i : Nat} {u : List Int} {j : Nat} (h : Pth t B i u j) {k : Nat} (hb : B j k) {v : List Int} {e : Nat} (g : Pth t B k v e) : Pth t B i (u ++ v) e := by
  induction h with
  | one ht => exact .cons ht hb g
  | cons ht hb' _ ih => exact .cons ht hb' (ih hb)
theorem Pth.inside {lo hi : Nat} (ht : ∀ i c, lo ≤ i → i < hi → t i c → t' i c) (hB : ∀ i j, lo ≤ i → i < hi → B i j → B' i j ∧ lo ≤ j ∧ j < hi) {i : Nat} {u : List Int} {e : Nat} (h : Pth t B i u e) : lo ≤ i → i < hi → Pth t' B' i u e ∧ lo ≤ e ∧ e < hi := by
  induction h with
  | one h1 => intro a b; exact ⟨.one (ht _ _ a b h1), a, b⟩
  | cons h1 h2 _ ih =>
    intro a b
    obtain ⟨g1, g2, g3⟩ := hB _ _ a b h2
    obtain ⟨i1, i2, i3⟩ := ih g2 g3
    exact ⟨.cons (ht _ _ a b h1) g1 i1, i2, i3⟩
structure Gl (t : Nat → Int → Prop) (B : Nat → Nat → Prop) (F L : Nat → Prop) (e : Prop) (lo hi : Nat) (A : Lang) : Prop where
  le : lo ≤ hi
  fr : ∀ i, F i → lo ≤ i ∧ i < hi
  lr : ∀ i, L i → lo ≤ i ∧ i < hi
  br : ∀ i j, lo ≤ i → i < hi → B i j → lo ≤ j ∧ j < hi
  nil : A [] ↔ e
  some : ∀ u, u ≠ [] → (A u ↔ ∃ i j, F i ∧ L j ∧ Pth t B i u j)
variable {F L F1 F2 L1 L2 F' L' : Nat → Prop} {e e1 e2 e' : Prop} {lo mid hi : Nat} {A A1 A2 : Lang}
theorem Gl.congr (g : Gl t B F L e lo hi A) (ht : ∀ i c, lo ≤ i → i < hi → (t i c ↔ t' i c)) (hB : ∀ i j, lo ≤ i → i < hi → (B i j ↔ B' i j)) (hF : ∀ i, F i ↔ F' i) (hL : ∀ i, L i ↔ L' i) (he : e ↔ e') : Gl t' B' F' L' e' lo hi A where
  le := g.le
  fr i h := g.fr i ((hF i).2 h)
  lr i h := g.lr i ((hL i).2 h)
  br i j h1 h2 h := g.br i j h1 h2 ((hB i j h1 h2).2 h)
  nil := g.nil.trans he
  some u hu := by
    rw [g.some u hu]
    constructor
    · rintro ⟨i, j, h1, h2, h3⟩
      obtain ⟨a, b⟩ := g.fr i h1
      exact ⟨i, j, (hF i).1 h1, (hL j).1 h2, (h3.inside (fun i c a b h => (ht i c a b).1 h) (fun i j a b h => ⟨(hB i j a b).1 h, g.br i j a b h⟩) a b).1⟩
    · rintro ⟨i, j, h1, h2, h3⟩
      obtain ⟨a, b⟩ := g.fr i ((hF i).2 h1)
      exact ⟨i, j, (hF i).2 h1, (hL j).2 h2, (h3.inside (fun i c a b h => (ht i c a b).2 h) (fun i j a b h => ⟨(hB i j a b).2 h, g.br i j a b ((hB i j a b).2 h)⟩) a b).1⟩
theorem Gl.eps (lo : Nat) : Gl t B (fun _ => False) (fun _ => False) True lo lo Lang.eps where
  le := Nat.le_refl _
  fr _ h := h.elim
  lr _ h := h.elim
  br i j h1 h2 _ := by omega
  nil := by simp [Lang.eps]
  some u hu := by
    constructor
    · intro h; exact absurd h hu
    · rintro ⟨_, _, h, _⟩; exact h.elim
theorem Gl.void (lo : Nat) : Gl t B (fun _ => False) (fun _ => False) False lo lo Lang.none where
  le := Nat.le_refl _
  fr _ h := h.elim
  lr _ h := h.elim
  br i j h1 h2 _ := by omega
  nil := Iff.rfl
  some u hu := by
    constructor
    · intro h; exact h.elim
    · rintro ⟨_, _, h, _⟩; exact h.elim
theorem Gl.place {x : PNode} {k : Nat} (ht : ∀ c, t k c ↔ inV x c = true) (hB : ∀ j, ¬ B k j) : Gl t B (fun i => i = k) (fun i => i = k) False k (k + 1) (Lang.one x) where
  le := Nat.le_succ _
  fr i h := by omega
  lr i h := by omega
  br i j h1 h2 h := by
    have : i = k := by omega
    subst this
    exact absurd h (hB j)
  nil := by simp [Lang.one]
  some u hu := by
    constructor
    · rintro ⟨c, rfl, hc⟩
      exact ⟨k, k, rfl, rfl, .one ((ht c).2 hc)⟩
    · rintro ⟨i, j, rfl, rfl, h⟩
      cases h with
      | one h => exact ⟨_, rfl, (ht _).1 h⟩
      | cons _ h _ => exact absurd h (hB _)
theorem Gl.opt (g : Gl t B F L e lo hi A) : Gl t B F L True lo hi (Lang.opt A) where
  le := g.le
  fr := g.fr
  lr := g.lr
  br := g.br
  nil := by simp [Lang.opt]
  some u hu := by
    rw [← g.some u hu]
    simp [Lang.opt, hu]
theorem Gl.alt (g1 : Gl t B1 F1 L1 e1 lo mid A1) (g2 : Gl t B2 F2 L2 e2 mid hi A2) (h1 : ∀ i j, lo ≤ i → i < mid → (B i j ↔ B1 i j)) (h2 : ∀ i j, mid ≤ i → i < hi → (B i j ↔ B2 i j)) :
    Gl t B (fun i => F1 i ∨ F2 i) (fun i => L1 i ∨ L2 i) (e1 ∨ e2) lo hi (fun u => A1 u ∨ A2 u) := by
  have k1 := g1.congr (fun _ _ _ _ => Iff.rfl) (fun i j a b => (h1 i j a b).symm) (fun _ => Iff.rfl) (fun _ => Iff.rfl) Iff.rfl
  have k2 := g2.congr (fun _ _ _ _ => Iff.rfl) (fun i j a b => (h2 i j a b).symm) (fun _ => Iff.rfl) (fun _ => Iff.rfl) Iff.rfl
  have l1 := k1.le
  have l2 := k2.le
  refine { le := by omega, fr := ?_, lr := ?_, br := ?_, nil := by rw [k1.nil, k2.nil], some := ?_ }
  · rintro i (h | h)
    · have := k1.fr i h; omega
    · have := k2.fr i h; omega
  · rintro i (h | h)
    · have := k1.lr i h; omega
    · have := k2.lr i h; omega
  · intro i j a b h
    rcases Nat.lt_or_ge i mid with c | c
    · have := k1.br i j a c h; omega
    · have := k2.br i j c b h; omega
  · intro u hu
    rw [k1.some u hu, k2.some u hu]
    constructor
    · rintro (⟨i, j, a, b, c⟩ | ⟨i, j, a, b, c⟩)
      · exact ⟨i, j, .inl a, .inl b, c⟩
      · exact ⟨i, j, .inr a, .inr b, c⟩
    · rintro ⟨i, j, a, b, c⟩
      rcases a with a | a
      · have ha := k1.fr i a
        have hj := (c.inside (fun _ _ _ _ h => h) (fun i j a b h => ⟨h, k1.br i j a b h⟩) ha.1 ha.2).2
        rcases b with b | b
        · exact .inl ⟨i, j, a, b, c⟩
        · have := k2.lr j b; omega
      · have ha := k2.fr i a
        have hj := (c.inside (fun _ _ _ _ h => h) (fun i j a b h => ⟨h, k2.br i j a b h⟩) ha.1 ha.2).2
        rcases b with b | b
        · have := k1.lr j b; omega
        · exact .inr ⟨i, j, a, b, c⟩
theorem Gl.cat (g1 : Gl t B1 F1 L1 e1 lo mid A1) (g2 : Gl t B2 F2 L2 e2 mid hi A2) (h1 : ∀ i j, lo ≤ i → i < mid → (B i j ↔ B1 i j ∨ (L1 i ∧ F2 j))) (h2 : ∀ i j, mid ≤ i → i < hi → (B i j ↔ B2 i j)) :
    Gl t B (fun i => F1 i ∨ (e1 ∧ F2 i)) (fun i => L2 i ∨ (e2 ∧ L1 i)) (e1 ∧ e2) lo hi (Lang.cat A1 A2) := by
  have l1 := g1.le
  have l2 := g2.le
  have up1 : ∀ {i u j}, Pth t B1 i u j → lo ≤ i → i < mid → Pth t B i u j ∧ lo ≤ j ∧ j < mid := fun p a b => p.inside (fun _ _ _ _ h => h) (fun i j a b h => ⟨(h1 i j a b).2 (.inl h), g1.br i j a b h⟩) a b
  have up2 : ∀ {i u j}, Pth t B2 i u j → mid ≤ i → i < hi → Pth t B i u j ∧ mid ≤ j ∧ j < hi := fun p a b => p.inside (fun _ _ _ _ h => h) (fun i j a b h => ⟨(h2 i j a b).2 h, g2.br i j a b h⟩) a b
  have dn2 : ∀ {i u j}, Pth t B i u j → mid ≤ i → i < hi → Pth t B2 i u j ∧ mid ≤ j ∧ j < hi := fun p a b => p.inside (fun _ _ _ _ h => h) (fun i j a b h => ⟨(h2 i j a b).1 h, g2.br i j a b ((h2 i j a b).1 h)⟩) a b
  have split : ∀ {i u j}, Pth t B i u j → lo ≤ i → i < mid → (Pth t B1 i u j ∧ j < mid) ∨ ∃ u1 u2 a b, u = u1 ++ u2 ∧ Pth t B1 i u1 a ∧ L1 a ∧ F2 b ∧ Pth t B2 b u2 j ∧ mid ≤ j := by
    intro i u j p
    induction p with
    | one h => intro _ b; exact .inl ⟨.one h, b⟩
    | @cons i k c u e h hb p ih =>
      intro a b
      rcases (h1 i k a b).1 hb with hb | ⟨hb1, hb2⟩
      · have hk := g1.br i k a b hb
        rcases ih hk.1 hk.2 with ⟨p1, hj⟩ | ⟨u1, u2, x, y, rfl, p1, hx, hy, p2, hj⟩
        · exact .inl ⟨.cons h hb p1, hj⟩
        · exact .inr ⟨c :: u1, u2, x, y, rfl, .cons h hb p1, hx, hy, p2, hj⟩
      · have hk := g2.fr k hb2
        have p2 := dn2 p hk.1 hk.2
        exact .inr ⟨[c], u, i, k, rfl, .one h, hb1, hb2, p2.1, p2.2.1⟩
  refine { le := by omega, fr := ?_, lr := ?_, br := ?_, nil := ?_, some := ?_ }
  · rintro i (h | h)
    · have := g1.fr i h; omega
    · have := g2.fr i h.2; omega
  · rintro i (h | h)
    · have := g2.lr i h; omega
    · have := g1.lr i h.2; omega
  · intro i j a b h
    rcases Nat.lt_or_ge i mid with c | c
    · rcases (h1 i j a c).1 h with h | ⟨_, h⟩
      · have := g1.br i j a c h; omega
      · have := g2.fr j h; omega
    · have := g2.br i j c b ((h2 i j c b).1 h); omega
  · rw [← g1.nil, ← g2.nil]
    constructor
    · rintro ⟨u, v, h, hu, hv⟩
      have : u = [] ∧ v = [] := by simpa using h.symm
      obtain ⟨rfl, rfl⟩ := this
      exact ⟨hu, hv⟩
    · rintro ⟨hu, hv⟩; exact ⟨[], [], rfl, hu, hv⟩
  · intro w hw
    constructor
    · rintro ⟨u, v, rfl, hu, hv⟩
      by_cases e1' : u = []
      · subst e1'
        have hv' : v ≠ [] := by simpa using hw
        obtain ⟨i, j, a, b, p⟩ := (g2.some v hv').1 hv
        have hi' := g2.fr i a
        exact ⟨i, j, .inr ⟨g1.nil.1 hu, a⟩, .inl b, (up2 p hi'.1 hi'.2).1⟩
      · obtain ⟨i, j, a, b, p⟩ := (g1.some u e1').1 hu
        have hi' := g1.fr i a
        have hj := g1.lr j b
        have p1 := (up1 p hi'.1 hi'.2).1
        by_cases e2' : v = []
        · subst e2'
          exact ⟨i, j, .inl a, .inr ⟨g2.nil.1 hv, b⟩, by simpa using p1⟩
        · obtain ⟨x, y, c, d, q⟩ := (g2.some v e2').1 hv
          have hx := g2.fr x c
          exact ⟨i, y, .inl a, .inl d, p1.join ((h1 j x hj.1 hj.2).2 (.inr ⟨b, c⟩)) (up2 q hx.1 hx.2).1⟩
    · rintro ⟨i, j, a, b, p⟩
      rcases a with a | ⟨a0, a⟩
      · have ha := g1.fr i a
        rcases split p ha.1 ha.2 with ⟨p1, hj⟩ | ⟨u1, u2, x, y, rfl, p1, hx, hy, p2, hj⟩
        · rcases b with b | ⟨b0, b⟩
          · have := g2.lr j b; omega
          · exact ⟨w, [], by simp, (g1.some w hw).2 ⟨i, j, a, b, p1⟩, g2.nil.2 b0⟩
        · rcases b with b | ⟨b0, b⟩
          · exact ⟨u1, u2, rfl, (g1.some u1 p1.ne).2 ⟨i, x, a, hx, p1⟩, (g2.some u2 p2.ne).2 ⟨y, j, hy, b, p2⟩⟩
          · have := g1.lr j b; omega
      · have ha := g2.fr i a
        have p2 := dn2 p ha.1 ha.2
        rcases b with b | ⟨b0, b⟩
        · exact ⟨[], w, rfl, g1.nil.2 a0, (g2.some w hw).2 ⟨i, j, a, b, p2.1⟩⟩
        · have := g1.lr j b; omega
theorem Gl.loop (g : Gl t B1 F L e lo hi A) (hB : ∀ i j, lo ≤ i → i < hi → (B i j ↔ B1 i j ∨ (L i ∧ F j))) (u : List Int) (hu : u ≠ []) : Lang.star A u ↔ ∃ i j, F i ∧ L j ∧ Pth t B i u j := by
  have up : ∀ {i u j}, Pth t B1 i u j → lo ≤ i → i < hi → Pth t B i u j ∧ lo ≤ j ∧ j < hi := fun p a b => p.inside (fun _ _ _ _ h => h) (fun i j a b h => ⟨(hB i j a b).2 (.inl h), g.br i j a b h⟩) a b
  constructor
  · intro h
    have : u ≠ [] → ∃ i j, F i ∧ L j ∧ Pth t B i u j := by
      clear hu
      induction h with
      | nil => intro h; exact absurd rfl h
      | @cons u v hA _ ih =>
        intro hw
        by_cases e1' : u = []
        · subst e1'
          have hv' : v ≠ [] := by simpa using hw
          simpa using ih hv'
        · obtain ⟨i, j, a, b, p⟩ := (g.some u e1').1 hA
          have hi' := g.fr i a
          have hj := g.lr j b
          have p1 := (up p hi'.1 hi'.2).1
          by_cases e2' : v = []
          · subst e2'
            exact ⟨i, j, a, b, by simpa using p1⟩
          · obtain ⟨x, y, c, d, q⟩ := ih e2'
            exact ⟨i, y, a, d, p1.join ((hB j x hj.1 hj.2).2 (.inr ⟨b, c⟩)) q⟩
    exact this hu
  · rintro ⟨i, j, a, b, p⟩
    have key : ∀ {i u j}, Pth t B i u j → L j → lo ≤ i → i < hi → ∃ u1 u2 x, u = u1 ++ u2 ∧ Pth t B1 i u1 x ∧ L x ∧ Lang.star A u2 := by
      intro i u j p
      induction p with
      | @one i c h => intro hl _ _; exact ⟨[c], [], i, rfl, .one h, hl, .nil⟩
      | @cons i k c u e h hb p ih =>
        intro hl a b
        rcases (hB i k a b).1 hb with hb | ⟨hb1, hb2⟩
        · have hk := g.br i k a b hb
          obtain ⟨u1, u2, x, rfl, p1, hx, hs⟩ := ih hl hk.1 hk.2
          exact ⟨c :: u1, u2, x, rfl, .cons h hb p1, hx, hs⟩
        · have hk := g.fr k hb2
          obtain ⟨u1, u2, x, rfl, p1, hx, hs⟩ := ih hl hk.1 hk.2
          exact ⟨[c], u1 ++ u2, i, rfl, .one h, hb1, .cons ((g.some u1 p1.ne).2 ⟨k, x, hb2, hx, p1⟩) hs⟩
    have ha := g.fr i a
    obtain ⟨u1, u2, x, rfl, p1, hx, hs⟩ := key p b ha.1 ha.2
    exact .cons ((g.some u1 p1.ne).2 ⟨i, x, a, hx, p1⟩) hs
theorem Gl.looped (g : Gl t B1 F L e lo hi A) (hB : ∀ i j, lo ≤ i → i < hi → (B i j ↔ B1 i j ∨ (L i ∧ F j))) (i j : Nat) (h1 : lo ≤ i) (h2 : i < hi) (h : B i j) : lo ≤ j ∧ j < hi := by
  rcases (hB i j h1 h2).1 h with h | ⟨_, h⟩
  · exact g.br i j h1 h2 h
  · exact g.fr j h
theorem Gl.star (g : Gl t B1 F L e lo hi A) (hB : ∀ i j, lo ≤ i → i < hi → (B i j ↔ B1 i j ∨ (L i ∧ F j))) : Gl t B F L True lo hi (Lang.star A) where
  le := g.le
  fr := g.fr
  lr := g.lr
  br := g.looped hB
  nil := by simp [Lang.star.nil]
  some := g.loop hB
theorem Gl.plus (g : Gl t B1 F L e lo hi A) (hB : ∀ i j, lo ≤ i → i < hi → (B i j ↔ B1 i j ∨ (L i ∧ F j))) : Gl t B F L e lo hi (Lang.plus A) where
  le := g.le
  fr := g.fr
  lr := g.lr
  br := g.looped hB
  nil := by
    rw [← g.nil]
    constructor
    · rintro ⟨u, v, h, hu, _⟩
      have : u = [] ∧ v = [] := by simpa using h.symm
      obtain ⟨rfl, rfl⟩ := this
      exact hu
    · intro h; exact ⟨[], [], rfl, h, .nil⟩
  some u hu := by
    rw [← g.loop hB u hu]
    constructor
    · exact Lang.plus_star
    · intro h
      rcases Lang.star_plus h with h | h
      · exact absurd h hu
      · exact h
end G
end Go.Proofs.YtpgcidpghmoibaaGreatDoor

namespace Go.Proofs.YtpgcidpghmoibaaGreatDoor
namespace G
def Long (T : List PNode) (Q : List Nat) (us : List Int) (n : Nat) (rule : Int) : Prop :=
  (n = 0 ∧ rule = -1 ∧ ∀ q ∈ Q, ∀ m, 0 < m → m ≤ us.length → ¬ lang T q (us.take m)) ∨
  (0 < n ∧ n ≤ us.length ∧ ∃ j q : Nat, rule = (j : Int) ∧ Q[j]? = some q ∧ lang T q (us.take n) ∧ (∀ q' ∈ Q, ∀ m, n < m → m ≤ us.length → ¬ lang T q' (us.take m)) ∧ ∀ i q' : Nat, i < j → Q[i]? = some q' → ¬ lang T q' (us.take n))
theorem Long.le {T : List PNode} {Q : List Nat} {us : List Int} {n : Nat} {r : Int} (h : Long T Q us n r) : n ≤ us.length := by
  rcases h with ⟨rfl, _⟩ | ⟨_, h, _⟩
  · exact Nat.zero_le _
  · exact h
theorem Long.rule {T : List PNode} {Q : List Nat} {us : List Int} {n : Nat} {r : Int} (h : Long T Q us n r) : (n = 0 ∧ r = -1) ∨ (0 < n ∧ 0 ≤ r ∧ r < Q.length) := by
  rcases h with ⟨h1, h2, _⟩ | ⟨h1, _, j, q, rfl, h2, _⟩
  · exact .inl ⟨h1, h2⟩
  · have := (List.getElem?_eq_some_iff.1 h2).1
    exact .inr ⟨h1, by omega, by omega⟩
theorem Long.one {T : List PNode} {Q : List Nat} {us : List Int} {n n' : Nat} {r r' : Int} (h : Long T Q us n r) (g : Long T Q us n' r') : n = n' ∧ r = r' := by
  rcases h with ⟨h1, h2, h3⟩ | ⟨h1, h2, j, q, h3, h4, h5, h6, h7⟩
  · rcases g with ⟨g1, g2, g3⟩ | ⟨g1, g2, i, p, g3, g4, g5, g6, g7⟩
    · exact ⟨by omega, by omega⟩
    · exact absurd g5 (h3 p (List.mem_of_getElem? g4) n' g1 g2)
  · rcases g with ⟨g1, g2, g3⟩ | ⟨g1, g2, i, p, g3, g4, g5, g6, g7⟩
    · exact absurd h5 (g3 q (List.mem_of_getElem? h4) n h1 h2)
    · have hn : n = n' := by
        rcases Nat.lt_trichotomy n n' with e | e | e
        · exact absurd g5 (h6 p (List.mem_of_getElem? g4) n' e g2)
        · exact e
        · exact absurd h5 (g6 q (List.mem_of_getElem? h4) n e h2)
      subst hn
      refine ⟨rfl, ?_⟩
      rcases Nat.lt_trichotomy i j with e | e | e
      · exact absurd g5 (h7 i p e g4)
      · omega
      · exact absurd h5 (g7 j q e h4)
end G
end Go.Proofs.YtpgcidpghmoibaaGreatDoor
