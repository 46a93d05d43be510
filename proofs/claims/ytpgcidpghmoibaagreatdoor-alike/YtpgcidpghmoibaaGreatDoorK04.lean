/-
  THE FORM OF RULES, without the program: a node without those around it that mean the same. Nothing of the program is run here. Conditions stand at each fact.
  THE REFERENCE's READER, as memory: what it means that a reader lies at a block, with its table of nodes, its names and its rules; how that stands while other memory is written, while its own numbers are written, while a node, a name, a rule is added. Nothing of the program is run here. Conditions stand at each fact.
  THE REFERENCE's READER: the walks of fail, more, see, skip, word, find: what each answers and what becomes of the reader. Conditions: the source has at most 2000 bytes, the place in it at most 100000.
-/
import Derived.Test.YtpgcidpghmoibaaGreatDoorK02
import Derived.Test.YtpgcidpghmoibaaGreatDoorK01
namespace Go.Proofs.YtpgcidpghmoibaaGreatDoor
namespace G
def lone (x : PNode) : Bool := (decide (x.kind = 113) || decide (x.kind = 99)) && decide (x.parts.length = 1)
def bareF (T : List PNode) : Nat → Nat → Nat
  | 0, n => n
  | f + 1, n => match T[n]? with
    | some x => if lone x = true then bareF T f (x.parts.headD 0) else n
    | none => n
def bare (T : List PNode) (n : Nat) : Nat := bareF T (n + 1) n
theorem lone_head {x : PNode} (h : lone x = true) : ∃ p, x.parts = [p] := by
  simp only [lone, Bool.and_eq_true, decide_eq_true_eq] at h
  exact List.length_eq_one_iff.1 h.2
theorem bareF_fuel {T : List PNode} (hT : WF T) : ∀ (n f g : Nat), n < f → n < g → bareF T f n = bareF T g n := by
  intro n
  induction n using Nat.strongRecOn with
  | ind n ih =>
    intro f g hf hg
    match f, g, hf, hg with
    | f + 1, g + 1, hf, hg =>
      cases hx : T[n]? with
      | none => simp [bareF, hx]
      | some x =>
        simp only [bareF, hx]
        by_cases hl : lone x = true
        · rw [if_pos hl, if_pos hl]
          obtain ⟨p, hp⟩ := lone_head hl
          have hpn := (hT n x hx).parts p (by rw [hp]; simp)
          rw [hp]
          exact ih p hpn f g (by omega) (by omega)
        · rw [if_neg hl, if_neg hl]
theorem bare_step {T : List PNode} (hT : WF T) {n p : Nat} {x : PNode} (hx : T[n]? = some x) (hl : lone x = true) (hp : x.parts = [p]) : bare T n = bare T p := by
  have hpn := (hT n x hx).parts p (by rw [hp]; simp)
  unfold bare
  rw [show bareF T (n + 1) n = bareF T n p by simp [bareF, hx, hl, hp]]
  exact bareF_fuel hT p _ _ hpn (by omega)
theorem bare_end {T : List PNode} {n : Nat} {x : PNode} (hx : T[n]? = some x) (hl : lone x = false) : bare T n = n := by
  simp [bare, bareF, hx, hl]
theorem bareF_le {T : List PNode} (hT : WF T) : ∀ (f n : Nat), bareF T f n ≤ n
  | 0, n => Nat.le_refl _
  | f + 1, n => by
    cases hx : T[n]? with
    | none => simp [bareF, hx]
    | some x =>
      simp only [bareF, hx]
      by_cases hl : lone x = true
      · rw [if_pos hl]
        obtain ⟨p, hp⟩ := lone_head hl
        have hpn := (hT n x hx).parts p (by rw [hp]; simp)
        have := bareF_le hT f p
        rw [hp]
        show bareF T f p ≤ n
        omega
      · rw [if_neg hl]
        exact Nat.le_refl _
theorem bare_le {T : List PNode} (hT : WF T) (n : Nat) : bare T n ≤ n := bareF_le hT _ n
def reps (x : PNode) : Bool := decide (x.kind = 42) || decide (x.kind = 43) || decide (x.kind = 63)
theorem reps_one {T : List PNode} (hT : WF T) {n : Nat} {x : PNode} (hx : T[n]? = some x) (h : reps x = true) : ∃ p, x.parts = [p] ∧ p < n := by
  simp only [reps, Bool.or_eq_true, decide_eq_true_eq] at h
  have hk : x.parts.length = 1 := by
    rcases (hT n x hx).kind with ⟨k, _⟩ | ⟨k, _⟩ | ⟨_, k⟩
    · omega
    · omega
    · exact k
  obtain ⟨p, hp⟩ := List.length_eq_one_iff.1 hk
  exact ⟨p, hp, (hT n x hx).parts p (by rw [hp]; simp)⟩
def mix (k k' : Nat) : Nat := if k' = k then k else 42
def repF (T : List PNode) : Nat → Nat → Nat → Nat × Nat
  | 0, k, n => (k, n)
  | f + 1, k, n => match T[n]? with
    | some x => if reps x = true then repF T f (mix k x.kind) (bare T (x.parts.headD 0)) else (k, n)
    | none => (k, n)
def rep (T : List PNode) (k n : Nat) : Nat × Nat := repF T (n + 1) k n
theorem repF_fuel {T : List PNode} (hT : WF T) : ∀ (n f g k : Nat), n < f → n < g → repF T f k n = repF T g k n := by
  intro n
  induction n using Nat.strongRecOn with
  | ind n ih =>
    intro f g k hf hg
    match f, g, hf, hg with
    | f + 1, g + 1, hf, hg =>
      cases hx : T[n]? with
      | none => simp [repF, hx]
      | some x =>
        simp only [repF, hx]
        by_cases hl : reps x = true
        · rw [if_pos hl, if_pos hl]
          obtain ⟨p, hp, hpn⟩ := reps_one hT hx hl
          have := bare_le hT p
          rw [hp]
          exact ih (bare T p) (by omega) f g _ (by omega) (by omega)
        · rw [if_neg hl, if_neg hl]
theorem rep_step {T : List PNode} (hT : WF T) {n p k : Nat} {x : PNode} (hx : T[n]? = some x) (hl : reps x = true) (hp : x.parts = [p]) : rep T k n = rep T (mix k x.kind) (bare T p) := by
  obtain ⟨p', hp', hpn⟩ := reps_one hT hx hl
  have e : p' = p := by rw [hp] at hp'; simpa using hp'.symm
  subst e
  have := bare_le hT p'
  unfold rep
  rw [show repF T (n + 1) k n = repF T n (mix k x.kind) (bare T p') by simp [repF, hx, hl, hp]]
  exact repF_fuel hT _ _ _ _ (by omega) (by omega)
theorem rep_end {T : List PNode} {n k : Nat} {x : PNode} (hx : T[n]? = some x) (hl : reps x = false) : rep T k n = (k, n) := by
  simp [rep, repF, hx, hl]
end G
end Go.Proofs.YtpgcidpghmoibaaGreatDoor

namespace Go.Proofs.YtpgcidpghmoibaaGreatDoor
namespace Rf
open Go.RowKit
open G (PNode)
structure St where
  i : Nat
  err : Nat
  place : Nat
  deep : Nat
  T : List PNode
  env : List (ByteArray × Nat)
  rules : List Nat
def ints (l : List Nat) : List Value := l.map fun n : Nat => .int .i64 (n : Int)
def rcells (l : List (Nat × Nat)) : List Value := (l.map fun x => [Value.int .i64 (x.1 : Int), .int .i64 (x.2 : Int)]).flatten
def ncell (x : PNode) (v : Value × Value) : List Value := [.int .u8 (x.kind : Int), v.1, .bool x.other, v.2, .int .i64 (x.size : Int)]
def ncells (T : List PNode) (V : List (Value × Value)) : List Value := ((T.zip V).map fun x => ncell x.1 x.2).flatten
def ecells (E : List (ByteArray × Nat)) : List Value := (E.map fun x => [Value.string x.1, .int .i64 (x.2 : Int)]).flatten
theorem ints_snoc (l : List Nat) (n : Nat) : ints (l ++ [n]) = ints l ++ [.int .i64 (n : Int)] := by simp [ints]
theorem rcells_snoc (l : List (Nat × Nat)) (a b : Nat) : rcells (l ++ [(a, b)]) = rcells l ++ [.int .i64 (a : Int), .int .i64 (b : Int)] := by simp [rcells]
theorem ecells_snoc (l : List (ByteArray × Nat)) (a : ByteArray) (b : Nat) : ecells (l ++ [(a, b)]) = ecells l ++ [.string a, .int .i64 (b : Int)] := by simp [ecells]
theorem ncells_snoc (T : List PNode) (V : List (Value × Value)) (x : PNode) (v : Value × Value) (h : V.length = T.length) : ncells (T ++ [x]) (V ++ [v]) = ncells T V ++ ncell x v := by
  unfold ncells
  rw [List.zip_append h.symm]
  simp
theorem flat_get {α : Type} (f : α → List Value) (c : Nat) (hc : ∀ x, (f x).length = c) : ∀ (l : List α) (k o : Nat) (x : α), l[k]? = some x → o < c → ((l.map f).flatten)[k * c + o]? = (f x)[o]?
  | [], k, o, x, h, ho => by simp at h
  | y :: l, 0, o, x, h, ho => by
    simp only [List.getElem?_cons_zero, Option.some.injEq] at h
    subst h
    simp only [List.map_cons, List.flatten_cons, Nat.zero_mul, Nat.zero_add]
    rw [List.getElem?_append_left (by rw [hc]; exact ho)]
  | y :: l, k + 1, o, x, h, ho => by
    simp only [List.getElem?_cons_succ] at h
    simp only [List.map_cons, List.flatten_cons]
    rw [List.getElem?_append_right (by rw [hc]; rw [Nat.succ_mul]; omega), hc]
    have e : (k + 1) * c + o - c = k * c + o := by rw [Nat.succ_mul]; omega
    rw [e]
    exact flat_get f c hc l k o x h ho
theorem ncells_get {T : List PNode} {V : List (Value × Value)} {k : Nat} {x : PNode} {v : Value × Value} (hx : T[k]? = some x) (hv : V[k]? = some v) (o : Nat) (ho : o < 5) : (ncells T V)[k * 5 + o]? = (ncell x v)[o]? :=
  flat_get (fun x : PNode × (Value × Value) => ncell x.1 x.2) 5 (fun _ => rfl) (T.zip V) k o (x, v) (List.getElem?_zip_eq_some.2 ⟨hx, hv⟩) ho
theorem ecells_get {E : List (ByteArray × Nat)} {k : Nat} {x : ByteArray × Nat} (hx : E[k]? = some x) (o : Nat) (ho : o < 2) : (ecells E)[k * 2 + o]? = ([Value.string x.1, .int .i64 (x.2 : Int)] : List Value)[o]? :=
  flat_get (fun x : ByteArray × Nat => [Value.string x.1, .int .i64 (x.2 : Int)]) 2 (fun _ => rfl) E k o x hx ho
def Foot (b : Nat) (vN vM vR : Value) (V : List (Value × Value)) (k : Nat) : Prop :=
  k = b ∨ vN.ownBlock = some k ∨ vM.ownBlock = some k ∨ vR.ownBlock = some k ∨ ∃ x ∈ V, x.1.ownBlock = some k ∨ x.2.ownBlock = some k
def rcellsOf (s : ByteArray) (st : St) (vN vM vR : Value) : Array Value :=
  #[.string s, .int .i64 (st.i : Int), .int .i64 (st.err : Int), .int .i64 (st.place : Int), .int .i64 (st.deep : Int), vN, vM, vR, .slice none 0 0, .slice none 0 0, .slice none 0 0]
structure RdAt (w : World) (b : Nat) (s : ByteArray) (st : St) (vN vM vR : Value) (V : List (Value × Value)) : Prop where
  blk : w.heap[b]? = some (.cells (rcellsOf s st vN vM vR) 36 (0, 0))
  len : V.length = st.T.length
  oN : w.ownsRow 0 118 5 vN st.T.length (ncells st.T V)
  oM : w.ownsRow 0 191 2 vM st.env.length (ecells st.env)
  oR : w.ownsRow 0 3 1 vR st.rules.length (ints st.rules)
  oV : ∀ (k : Nat) (x : PNode) (v : Value × Value), st.T[k]? = some x → V[k]? = some v → w.ownsRow 0 201 2 v.1 x.ranges.length (rcells x.ranges) ∧ w.ownsRow 0 3 1 v.2 x.parts.length (ints x.parts)
  nbN : vN.ownBlock ≠ some b
  nbM : vM.ownBlock ≠ some b
  nbR : vR.ownBlock ≠ some b
  apNM : Apart vN vM
  apNR : Apart vN vR
  apMR : Apart vM vR
  imm : ∀ x ∈ V, ∀ k, x.1.ownBlock = some k ∨ x.2.ownBlock = some k → k ≠ b ∧ vN.ownBlock ≠ some k ∧ vM.ownBlock ≠ some k ∧ vR.ownBlock ≠ some k
theorem RdAt.lt {w : World} {b : Nat} {s : ByteArray} {st : St} {vN vM vR : Value} {V : List (Value × Value)} (h : RdAt w b s st vN vM vR V) : ∀ k, Foot b vN vM vR V k → k < w.heap.size := by
  rintro k (rfl | e | e | e | ⟨x, hx, e⟩)
  · exact lt_of_block h.blk
  · exact (h.oN.lt k e).2
  · exact (h.oM.lt k e).2
  · exact (h.oR.lt k e).2
  · obtain ⟨j, hj⟩ := List.getElem?_of_mem hx
    have hl : j < st.T.length := by
      obtain ⟨h1, _⟩ := List.getElem?_eq_some_iff.1 hj
      have h2 := h.len
      omega
    obtain ⟨o1, o2⟩ := h.oV j _ x (List.getElem?_eq_getElem hl) hj
    rcases e with e | e
    · exact (o1.lt k e).2
    · exact (o2.lt k e).2
theorem RdAt.put {w w' : World} {b : Nat} {s : ByteArray} {st st' : St} {vN vM vR : Value} {V : List (Value × Value)} (h : RdAt w b s st vN vM vR V)
    (hb : w'.heap[b]? = some (.cells (rcellsOf s st' vN vM vR) 36 (0, 0))) (hk : ∀ k, k ≠ b → Foot b vN vM vR V k → w'.heap[k]? = w.heap[k]?)
    (hT : st'.T = st.T) (hE : st'.env = st.env) (hR : st'.rules = st.rules) : RdAt w' b s st' vN vM vR V where
  blk := hb
  len := by rw [hT]; exact h.len
  oN := by rw [hT]; exact own_same h.oN (fun k e => hk k (fun e2 => h.nbN (e2 ▸ e)) (.inr (.inl e)))
  oM := by rw [hE]; exact own_same h.oM (fun k e => hk k (fun e2 => h.nbM (e2 ▸ e)) (.inr (.inr (.inl e))))
  oR := by rw [hR]; exact own_same h.oR (fun k e => hk k (fun e2 => h.nbR (e2 ▸ e)) (.inr (.inr (.inr (.inl e)))))
  oV k x v hx hv := by
    rw [hT] at hx
    obtain ⟨o1, o2⟩ := h.oV k x v hx hv
    have hm : v ∈ V := List.mem_of_getElem? hv
    exact ⟨own_same o1 (fun j e => hk j (h.imm v hm j (.inl e)).1 (.inr (.inr (.inr (.inr ⟨v, hm, .inl e⟩))))), own_same o2 (fun j e => hk j (h.imm v hm j (.inr e)).1 (.inr (.inr (.inr (.inr ⟨v, hm, .inr e⟩)))))⟩
  nbN := h.nbN
  nbM := h.nbM
  nbR := h.nbR
  apNM := h.apNM
  apNR := h.apNR
  apMR := h.apMR
  imm := h.imm
def Rd (w : World) (b : Nat) (s : ByteArray) (S : Nat → Prop) (st : St) : Prop :=
  ∃ vN vM vR V, RdAt w b s st vN vM vR V ∧ (∀ k, Foot b vN vM vR V k → S k) ∧ ∀ k, S k → k < w.heap.size
structure Evo (w : World) (S : Nat → Prop) (w' : World) (S' : Nat → Prop) : Prop where
  kept : Kept (fun k => ¬ S k) w w'
  new : ∀ k, S' k → S k ∨ w.heap.size ≤ k
theorem Evo.refl (w : World) (S : Nat → Prop) : Evo w S w S := ⟨Kept.refl _ _, fun _ h => .inl h⟩
theorem Evo.trans {w w' w'' : World} {S S' S'' : Nat → Prop} (h : Evo w S w' S') (g : Evo w' S' w'' S'') : Evo w S w'' S'' where
  kept := h.kept.trans' g.kept (fun i hi hn h2 => by
    rcases h.new i h2 with h3 | h3
    · exact hn h3
    · omega)
  new k hk := by
    rcases g.new k hk with h2 | h2
    · exact h.new k h2
    · exact .inr (Nat.le_trans h.kept.size h2)
theorem Evo.row {w w' : World} {S S' : Nat → Prop} (h : Evo w S w' S') {e size n : Nat} {v : Value} {xs : List Value} (ho : w.ownsRow 0 e size v n xs) (hn : ∀ k, v.ownBlock = some k → ¬ S k) :
    w'.ownsRow 0 e size v n xs ∧ ∀ k, v.ownBlock = some k → ¬ S' k :=
  ⟨own_same ho (fun k e => h.kept.block k (ho.lt k e).2 (hn k e)), fun k e h2 => by
    rcases h.new k h2 with h3 | h3
    · exact hn k e h3
    · have := (ho.lt k e).2
      omega⟩
theorem Rd.same {w w' : World} {b : Nat} {s : ByteArray} {S : Nat → Prop} {st : St} (h : Rd w b s S st) (hsz : w.heap.size ≤ w'.heap.size) (hk : ∀ k, S k → w'.heap[k]? = w.heap[k]?) : Rd w' b s S st := by
  obtain ⟨vN, vM, vR, V, A, hf, hl⟩ := h
  exact ⟨vN, vM, vR, V, A.put (by rw [hk b (hf b (.inl rfl))]; exact A.blk) (fun k _ h2 => hk k (hf k h2)) rfl rfl rfl, hf, fun k hk => Nat.lt_of_lt_of_le (hl k hk) hsz⟩
theorem Rd.alloc {w : World} {b : Nat} {s : ByteArray} {S : Nat → Prop} {st : St} (h : Rd w b s S st) (o : Obj) : Rd (w.alloc o) b s S st := by
  obtain ⟨_, _, _, _, _, _, hl⟩ := id h
  exact h.same (by simp) (fun k hk => Below.heap_alloc _ _ _ (hl k hk))
theorem Rd.drewN {w : World} {b : Nat} {s : ByteArray} {S : Nat → Prop} {st : St} (h : Rd w b s S st) (n : Nat) : Rd (w.drewN n) b s S st := h.same (Nat.le_refl _) (fun _ _ => rfl)
theorem Rd.grown {w w' : World} {b : Nat} {s : ByteArray} {S : Nat → Prop} {st : St} {row : Option Nat} (h : Rd w b s S st) (hg : w.grownBy w' row) (hr : ∀ k, row = some k → ¬ S k) : Rd w' b s S st := by
  obtain ⟨_, _, _, _, _, _, hl⟩ := id h
  exact h.same hg.size (fun k hk => hg.block k (hl k hk) (fun e => hr k e.symm hk))
theorem Rd.inS {w : World} {b : Nat} {s : ByteArray} {S : Nat → Prop} {st : St} (h : Rd w b s S st) : S b ∧ b < w.heap.size := by
  obtain ⟨_, _, _, _, A, hf, hl⟩ := h
  exact ⟨hf b (.inl rfl), hl b (hf b (.inl rfl))⟩
theorem Rd.lt {w : World} {b : Nat} {s : ByteArray} {S : Nat → Prop} {st : St} (h : Rd w b s S st) : ∀ k, S k → k < w.heap.size := by
  obtain ⟨_, _, _, _, _, _, hl⟩ := h
  exact hl
theorem Rd.num {w : World} {b : Nat} {s : ByteArray} {S : Nat → Prop} {st : St} (h : Rd w b s S st) (o : Nat) (v : Value) (st' : St)
    (hc : ∀ vN vM vR, (rcellsOf s st vN vM vR).setIfInBounds o v = rcellsOf s st' vN vM vR) (hT : st'.T = st.T) (hE : st'.env = st.env) (hR : st'.rules = st.rules) : Rd (w.setCell ⟨b, o, none⟩ v) b s S st' := by
  obtain ⟨vN, vM, vR, V, A, hf, hl⟩ := h
  exact ⟨vN, vM, vR, V, A.put (by rw [blk_set A.blk, hc]) (fun k hk _ => blk_ne v hk) hT hE hR, hf, fun k hk => by simpa [World.setCell] using hl k hk⟩
theorem Rd.setI {w : World} {b : Nat} {s : ByteArray} {S : Nat → Prop} {st : St} (h : Rd w b s S st) (j : Nat) : Rd (w.setCell ⟨b, 1, none⟩ (.int .i64 (j : Int))) b s S { st with i := j } :=
  h.num 1 _ { st with i := j } (fun _ _ _ => rfl) rfl rfl rfl
theorem Rd.inc {w : World} {b : Nat} {s : ByteArray} {S : Nat → Prop} {st : St} (h : Rd w b s S st) : Rd (w.setCell ⟨b, 1, none⟩ (.int .i64 ((st.i : Int) + 1))) b s S { st with i := st.i + 1 } := h.setI (st.i + 1)
theorem Rd.setErr {w : World} {b : Nat} {s : ByteArray} {S : Nat → Prop} {st : St} (h : Rd w b s S st) (j : Nat) : Rd (w.setCell ⟨b, 2, none⟩ (.int .i64 (j : Int))) b s S { st with err := j } :=
  h.num 2 _ { st with err := j } (fun _ _ _ => rfl) rfl rfl rfl
theorem Rd.setPlace {w : World} {b : Nat} {s : ByteArray} {S : Nat → Prop} {st : St} (h : Rd w b s S st) (j : Nat) : Rd (w.setCell ⟨b, 3, none⟩ (.int .i64 (j : Int))) b s S { st with place := j } :=
  h.num 3 _ { st with place := j } (fun _ _ _ => rfl) rfl rfl rfl
theorem Rd.setDeep {w : World} {b : Nat} {s : ByteArray} {S : Nat → Prop} {st : St} (h : Rd w b s S st) (j : Nat) : Rd (w.setCell ⟨b, 4, none⟩ (.int .i64 (j : Int))) b s S { st with deep := j } :=
  h.num 4 _ { st with deep := j } (fun _ _ _ => rfl) rfl rfl rfl
theorem Evo.set {w w1 : World} {b : Nat} {S S1 : Nat → Prop} (h : Evo w S w1 S1) (_hb : S1 b) (hS : S b ∨ w.heap.size ≤ b) (o : Nat) (v : Value) : Evo w S (w1.setCell ⟨b, o, none⟩ v) S1 where
  kept := by
    rcases hS with hS | hS
    · exact h.kept.setCell (fun hn => hn hS) v
    · exact h.kept.setNew hS v
  new := h.new
theorem Evo.drewN {w w1 : World} {S S1 : Nat → Prop} (h : Evo w S w1 S1) (n : Nat) : Evo w S (w1.drewN n) S1 := ⟨h.kept.drewN n, h.new⟩
theorem Evo.alloc {w w1 : World} {S S1 : Nat → Prop} (h : Evo w S w1 S1) (o : Obj) : Evo w S (w1.alloc o) S1 := ⟨h.kept.alloc o, h.new⟩
theorem Evo.grown {w w1 w2 : World} {S S1 : Nat → Prop} {row : Option Nat} (h : Evo w S w1 S1) (hg : w1.grownBy w2 row) (hr : ∀ k, row = some k → w.heap.size ≤ k) : Evo w S w2 S1 :=
  ⟨h.kept.grown hg (fun k e hk => absurd (hr k e) (by omega)), h.new⟩
structure Reads (w : World) (b : Nat) (s : ByteArray) (st : St) : Prop where
  c0 : w.cell? ⟨b, 0, none⟩ = some (.string s)
  c1 : w.cell? ⟨b, 1, none⟩ = some (.int .i64 (st.i : Int))
  c2 : w.cell? ⟨b, 2, none⟩ = some (.int .i64 (st.err : Int))
  c3 : w.cell? ⟨b, 3, none⟩ = some (.int .i64 (st.place : Int))
  c4 : w.cell? ⟨b, 4, none⟩ = some (.int .i64 (st.deep : Int))
  fr : ∀ o, w.frozen? ⟨b, o, none⟩ = false
theorem Rd.reads {w : World} {b : Nat} {s : ByteArray} {S : Nat → Prop} {st : St} (h : Rd w b s S st) : Reads w b s st := by
  obtain ⟨vN, vM, vR, V, A, _, _⟩ := h
  exact ⟨cell_blk A.blk 0 _ rfl, cell_blk A.blk 1 _ rfl, cell_blk A.blk 2 _ rfl, cell_blk A.blk 3 _ rfl, cell_blk A.blk 4 _ rfl, fun o => free_blk A.blk o⟩
end Rf
end Go.Proofs.YtpgcidpghmoibaaGreatDoor

namespace Go.Proofs.YtpgcidpghmoibaaGreatDoor
namespace Rf
open Go.RowKit
open G (PNode)
theorem ret_bool {a b : Bool} (h : a = b) : Ending.returned (.bool a) = .returned (.bool b) := by rw [h]
theorem ret_int {k : IntKind} {a b : Int} (h : a = b) : Ending.returned (.int k a) = .returned (.int k b) := by rw [h]
def failed (st : St) (e p : Nat) : St := if st.err = 0 then { st with err := e, place := p } else st
set_option maxRecDepth 100000 in
set_option maxHeartbeats 400000 in
theorem fail_any (w : World) (b : Nat) (s : ByteArray) (S : Nat → Prop) (st : St) (e p : Nat) (hR : Rd w b s S st) :
    Calls Tryz.prog 110 #[.pointer (some ⟨b, 0, none⟩), .int .i64 (e : Int), .int .i64 (p : Int)] w fun r w' => r = .returned (.tuple #[]) ∧ Rd w' b s S (failed st e p) ∧ Evo w S w' S := by
  obtain ⟨c0, c1, c2, c3, c4, fr⟩ := hR.reads
  obtain ⟨hSb, _⟩ := hR.inS
  by_cases h0 : st.err = 0
  · rw [h0] at c2
    go_enter Tryz.func110, Tryz.ntmps110
    go_wp2
    go_end0
    refine ⟨rfl, ?_, ((Evo.refl w S).set hSb (.inl hSb) _ _).set hSb (.inl hSb) _ _⟩
    rw [failed, if_pos h0]
    exact (hR.setErr e).setPlace p
  · have h0' : ¬ (st.err : Int) = 0 := by omega
    go_enter Tryz.func110, Tryz.ntmps110
    go_wp2
    go_end0
    refine ⟨rfl, ?_, Evo.refl w S⟩
    rw [failed, if_neg h0]
    exact hR
theorem drewN_drewN (w : World) (n m : Nat) : (w.drewN n).drewN m = w.drewN (n + m) := by simp [World.drewN, Nat.add_assoc]
def moreB (s : ByteArray) (st : St) : Bool := decide (st.err = 0) && decide (st.i < s.size)
set_option maxRecDepth 100000 in
set_option maxHeartbeats 400000 in
theorem more_any (w : World) (b : Nat) (s : ByteArray) (S : Nat → Prop) (st : St) (hR : Rd w b s S st) (_hs : s.size ≤ 2000) (_hi : st.i ≤ 100000) :
    Calls Tryz.prog 81 #[.pointer (some ⟨b, 0, none⟩)] w fun r w' => r = .returned (.bool (moreB s st)) ∧ ∃ n, w' = w.drewN n := by
  obtain ⟨c0, c1, c2, c3, c4, fr⟩ := hR.reads
  by_cases h0 : st.err = 0
  · rw [h0] at c2
    go_enter Tryz.func81, Tryz.ntmps81
    go_wp2
    go_quiet (fail)
    go_wp2
    go_ret
    refine ⟨ret_bool ?_, _, rfl⟩
    simp [moreB, h0]
  · have h0' : decide ((st.err : Int) = 0) = false := by simpa using h0
    go_enter Tryz.func81, Tryz.ntmps81
    go_wp2
    go_quiet (fail)
    go_wp2
    go_ret
    refine ⟨ret_bool ?_, _, rfl⟩
    simp [moreB, h0]
def seeV (s : ByteArray) (st : St) : Int := if st.err = 0 then G.pk s st.i else -1
theorem seeV_ok {s : ByteArray} {st : St} (h : st.err = 0) : seeV s st = G.pk s st.i := by simp [seeV, h]
theorem seeV_no {s : ByteArray} {st : St} (h : st.err ≠ 0) : seeV s st = -1 := by simp [seeV, h]
set_option maxRecDepth 100000 in
set_option maxHeartbeats 400000 in
theorem see_any (w : World) (b : Nat) (s : ByteArray) (S : Nat → Prop) (st : St) (hR : Rd w b s S st) (hs : s.size ≤ 2000) (hi : st.i ≤ 100000) :
    Calls Tryz.prog 107 #[.pointer (some ⟨b, 0, none⟩)] w fun r w' => r = .returned (.int .i64 (seeV s st)) ∧ ∃ n, w' = w.drewN n := by
  obtain ⟨c0, c1, c2, c3, c4, fr⟩ := hR.reads
  by_cases h0 : moreB s st = true
  · have h1 : st.err = 0 ∧ st.i < s.size := by simpa [moreB] using h0
    obtain ⟨he, hlt⟩ := h1
    have hlt' : (st.i : Int) < (s.size : Int) := by omega
    have hb : (s[st.i]'hlt).toNat < 256 := by rw [U.at_get]; exact U.at_lt s st.i
    have E : Hid (seeV s st = ((s[st.i]'hlt).toNat : Int)) := by
      show seeV s st = _
      rw [seeV_ok he, G.pk_lt hlt, U.at_get]
    go_enter Tryz.func107, Tryz.ntmps107
    go_wp2_with (go_at_call 81; refine (more_any _ b s S st hR hs hi).mono ?_; rw [h0]; rintro e w' ⟨rfl, n, rfl⟩)
    go_quiet (fail)
    go_wp2
    go_ret
    refine ⟨ret_int ?_, _, drewN_drewN _ _ _⟩
    rw [E.out]
  · have h1 : moreB s st = false := by simpa using h0
    have E : Hid (seeV s st = -1) := by
      show seeV s st = _
      by_cases he : st.err = 0
      · rw [seeV_ok he, G.pk_ge]
        intro hlt
        exact h0 (by simp [moreB, he, hlt])
      · exact seeV_no he
    go_enter Tryz.func107, Tryz.ntmps107
    go_wp2_with (go_at_call 81; refine (more_any _ b s S st hR hs hi).mono ?_; rw [h1]; rintro e w' ⟨rfl, n, rfl⟩)
    go_ret
    refine ⟨ret_int ?_, _, rfl⟩
    rw [E.out]
def posOf (b : Nat) (w : World) : Nat := match w.cell? ⟨b, 1, none⟩ with | some (.int _ x) => x.toNat | _ => 0
theorem Rd.pos {w : World} {b : Nat} {s : ByteArray} {S : Nat → Prop} {st : St} (h : Rd w b s S st) : posOf b w = st.i := by
  unfold posOf
  rw [h.reads.c1]
  simp
set_option maxRecDepth 100000 in
set_option maxHeartbeats 1000000 in
theorem skip_no (w : World) (b : Nat) (s : ByteArray) (S : Nat → Prop) (st : St) (hR : Rd w b s S st) (hs : s.size ≤ 2000) (hi : st.i ≤ 100000) (h0 : st.err ≠ 0) :
    Calls Tryz.prog 80 #[.pointer (some ⟨b, 0, none⟩)] w fun r w' => r = .returned (.tuple #[]) ∧ Rd w' b s S st ∧ Evo w S w' S := by
  go_enter Tryz.func80, Tryz.ntmps80
  go_wp2
  go_loopw [2] (fun _ wr => ∃ n, wr = w.drewN n) (fun _ _ => 0)
  case atStart => exact ⟨0, rfl⟩
  case round =>
    obtain ⟨n, rfl⟩ := hrel
    go_wp2_with (go_at_call 107; refine (see_any _ b s S st (hR.drewN _) hs hi).mono ?_; rw [seeV_no h0]; rintro e w' ⟨rfl, n2, rfl⟩)
    refine bodyPost_ret (results_none rfl _ _ _) rfl ?_
    exact ⟨rfl, hR.drewN _, (Evo.refl w S).drewN _⟩
set_option maxRecDepth 100000 in
set_option maxHeartbeats 1000000 in
theorem skip_any (w : World) (b : Nat) (s : ByteArray) (S : Nat → Prop) (st : St) (hR : Rd w b s S st) (hs : s.size ≤ 2000) (hi : st.i ≤ s.size) (h0 : st.err = 0) :
    Calls Tryz.prog 80 #[.pointer (some ⟨b, 0, none⟩)] w fun r w' => r = .returned (.tuple #[]) ∧ Rd w' b s S { st with i := G.skip s st.i } ∧ Evo w S w' S := by
  obtain ⟨hSb, _⟩ := hR.inS
  go_enter Tryz.func80, Tryz.ntmps80
  go_wp2
  go_loopw [2] (fun _ wr => ∃ j, j ≤ s.size ∧ Rd wr b s S { st with i := j } ∧ Evo w S wr S ∧ G.skip s j = G.skip s st.i) (fun _ wr => s.size - posOf b wr)
  case atStart => exact ⟨st.i, hi, hR, Evo.refl w S, rfl⟩
  case round =>
    obtain ⟨j, hj, hRj, hE, hsk⟩ := hrel
    have HP : Hid (posOf b wr = j) := hRj.pos
    have HS : Hid (G.skip s j = G.skip s st.i) := hsk
    clear hsk
    by_cases h35 : G.pk s j = 35
    · have hlt := G.lt_of_pk (s := s) (i := j) (by omega)
      have h35' : U.at' s j ≠ 10 := by rw [G.pk_lt hlt] at h35; omega
      have hsee : seeV s { st with i := j } = 35 := (seeV_ok (st := { st with i := j }) h0).trans h35
      go_wp2_with (go_at_call 107; refine (see_any _ b s S _ hRj hs (by show j ≤ _; omega)).mono ?_; rw [hsee]; rintro e w' ⟨rfl, n2, rfl⟩)
      go_loopw [] (fun wq => ∃ m, j ≤ m ∧ m ≤ s.size ∧ Rd wq b s S { st with i := m } ∧ Evo w S wq S ∧ G.com s m = G.com s j) (fun wq => s.size - posOf b wq)
      case atStart => exact ⟨j, Nat.le_refl _, hj, hRj.drewN _, hE.drewN _, rfl⟩
      case round =>
        obtain ⟨m, hjm, hm, hRm, hEm, hcm⟩ := hrel
        have HPm : Hid (posOf b wr = m) := hRm.pos
        have HC : Hid (G.com s m = G.com s j) := hcm
        clear hcm
        obtain ⟨c0, c1, c2, c3, c4, fr⟩ := hRm.reads
        by_cases hl : m < s.size
        · by_cases h10 : U.at' s m = 10
          · have hg : ((s[m]'hl).toNat : Int) = 10 := by rw [U.at_get]; omega
            have hl' : (m : Int) < (s.size : Int) := by omega
            go_wp2
            go_quiet (fail)
            go_wp2
            go_roundw
            case rel =>
              have e : G.com s m = m := G.com_end (by omega)
              exact ⟨m, hm, hRm.drewN _, hEm.drewN _, by rw [← HS.out, G.skip_com h35, ← HC.out, e]⟩
            case measure =>
              have e : G.com s m = m := G.com_end (by omega)
              have e2 := HC.out
              rw [e, G.com_step hlt h35'] at e2
              have := G.com_ge s _ (j + 1) (Nat.le_refl _)
              rw [(hRm.drewN _).pos, HP.out]
              show s.size - m < _
              omega
          · have hg : ((s[m]'hl).toNat : Int) ≠ 10 := by rw [U.at_get]; omega
            have hl' : (m : Int) < (s.size : Int) := by omega
            go_wp2
            go_quiet (fail)
            go_wp2
            go_roundw
            case rel => exact ⟨m + 1, by omega, by omega, (hRm.drewN _).setI (m + 1), (hEm.drewN _).set hSb (.inl hSb) _ _, by rw [← G.com_step hl h10]; exact HC.out⟩
            case measure =>
              rw [HPm.out, (hRm.drewN _).inc.pos]
              show s.size - (m + 1) < _
              omega
        · have hl' : ¬ (m : Int) < (s.size : Int) := by omega
          go_wp2
          go_quiet (fail)
          go_wp2
          go_roundw
          case rel =>
            have e : G.com s m = m := G.com_end (by omega)
            exact ⟨m, hm, hRm.drewN _, hEm.drewN _, by rw [← HS.out, G.skip_com h35, ← HC.out, e]⟩
          case measure =>
            rw [(hRm.drewN _).pos, HP.out]
            show s.size - m < _
            omega
    · have hsee : seeV s { st with i := j } = G.pk s j := seeV_ok (st := { st with i := j }) h0
      by_cases hbl : G.pk s j = 32 ∨ G.pk s j = 9 ∨ G.pk s j = 10
      · have hlt := G.lt_of_pk (s := s) (i := j) (by omega)
        obtain ⟨c0, c1, c2, c3, c4, fr⟩ := hRj.reads
        generalize hp : G.pk s j = p at h35 hsee hbl
        have HB : Hid (G.pk s j = p) := hp
        clear hp
        rcases hbl with rfl | rfl | rfl
        all_goals
          go_wp2_with (go_at_call 107; refine (see_any _ b s S _ hRj hs (by show j ≤ _; omega)).mono ?_; rw [hsee]; rintro e w' ⟨rfl, n2, rfl⟩)
          go_roundw
          case rel => exact ⟨j + 1, by omega, (hRj.drewN _).setI (j + 1), (hE.drewN _).set hSb (.inl hSb) _ _, by rw [← HS.out, G.skip_blank (i := j) (by have := HB.out; omega)]⟩
          case measure =>
            rw [HP.out, (hRj.drewN _).inc.pos]
            show s.size - (j + 1) < _
            omega
      · have e : G.skip s j = j := G.skip_end h35 hbl
        generalize hp : G.pk s j = p at h35 hsee hbl
        have HB : Hid (G.skip s j = j) := e
        clear e hp
        have hb1 : (p != 32) = true := by simp; omega
        have hb2 : (p != 9) = true := by simp; omega
        have hb3 : (p != 10) = true := by simp; omega
        go_wp2_with (go_at_call 107; refine (see_any _ b s S _ hRj hs (by show j ≤ _; omega)).mono ?_; rw [hsee]; rintro e w' ⟨rfl, n2, rfl⟩)
        refine bodyPost_ret (results_none rfl _ _ _) rfl ?_
        refine ⟨rfl, ?_, hE.drewN _⟩
        rw [← HS.out, HB.out]
        exact hRj.drewN _
end Rf
end Go.Proofs.YtpgcidpghmoibaaGreatDoor
