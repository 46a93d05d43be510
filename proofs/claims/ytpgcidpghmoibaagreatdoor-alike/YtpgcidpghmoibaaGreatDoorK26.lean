/-
  LANGUAGES THAT ARE THE SAME, written in two ways: the laws of repetitions, of choices and of sequences that the statement Alike leans on. Nothing of the program is run here. No conditions.
  EXPRS WRITTEN DOWN, read without the program: bytes that stand at a place of a source as an atom, as items one behind the other, as choices; what is read of them matches what is said of them; and rules, one behind the other. Nothing of the program is run here. Conditions stand at each fact.
-/
import Derived.Test.YtpgcidpghmoibaaGreatDoorK24
import Derived.Test.YtpgcidpghmoibaaGreatDoorK05
namespace Go.Proofs.YtpgcidpghmoibaaGreatDoor
namespace G
theorem Lang.plus_of {A : Lang} {u : List Int} (h : A u) : Lang.plus A u := ⟨u, [], by simp, h, .nil⟩
theorem Lang.star_opt (A : Lang) : Lang.star A = Lang.opt (Lang.plus A) := Lang.ext fun u => by
  constructor
  · intro h
    exact Lang.star_plus h
  · rintro (rfl | h)
    · exact .nil
    · exact Lang.plus_star h
theorem Lang.plus_plus (A : Lang) : Lang.plus A = Lang.plus (Lang.plus A) := Lang.ext fun u => by
  constructor
  · intro h
    exact Lang.plus_of h
  · rintro ⟨x, y, rfl, ⟨p, q, rfl, h1, h2⟩, h3⟩
    exact ⟨p, q ++ y, by simp, h1, Lang.star_append h2 (Lang.star_star (Lang.star_mono (fun _ h => Lang.plus_star h) h3))⟩
theorem Lang.star_star_eq (A : Lang) : Lang.star (Lang.star A) = Lang.star A := Lang.ext fun _ => ⟨Lang.star_star, fun h => Lang.star_one h⟩
theorem Lang.alt_comm (A B : Lang) : Lang.alt [A, B] = Lang.alt [B, A] := Lang.ext fun u => by
  simp only [Lang.alt, Lang.none, or_false]
  exact Or.comm
theorem Lang.cat_alt (A B C : Lang) : Lang.cat A (Lang.alt [B, C]) = Lang.alt [Lang.cat A B, Lang.cat A C] := Lang.ext fun u => by
  simp only [Lang.alt, Lang.none, or_false]
  constructor
  · rintro ⟨x, y, rfl, h1, h2 | h2⟩
    · exact .inl ⟨x, y, rfl, h1, h2⟩
    · exact .inr ⟨x, y, rfl, h1, h2⟩
  · rintro (⟨x, y, rfl, h1, h2⟩ | ⟨x, y, rfl, h1, h2⟩)
    · exact ⟨x, y, rfl, h1, .inl h2⟩
    · exact ⟨x, y, rfl, h1, .inr h2⟩
theorem Lang.star_alt (A B : Lang) : Lang.star (Lang.alt [A, B]) = Lang.star (Lang.cat (Lang.star A) (Lang.star B)) := Lang.ext fun u => by
  constructor
  · refine Lang.star_mono (fun v hv => ?_)
    simp only [Lang.alt, Lang.none, or_false] at hv
    rcases hv with h | h
    · exact ⟨v, [], by simp, Lang.star_one h, .nil⟩
    · exact ⟨[], v, by simp, .nil, Lang.star_one h⟩
  · intro h
    refine Lang.star_star (Lang.star_mono (fun v hv => ?_) h)
    obtain ⟨x, y, rfl, h1, h2⟩ := hv
    refine Lang.star_append (Lang.star_mono (fun w hw => ?_) h1) (Lang.star_mono (fun w hw => ?_) h2)
    · simp only [Lang.alt, Lang.none, or_false]; exact .inl hw
    · simp only [Lang.alt, Lang.none, or_false]; exact .inr hw
def SameLang (T : List PNode) (Q : List Nat) (T' : List PNode) (Q' : List Nat) : Prop := Q.length = Q'.length ∧ ∀ (j q q' : Nat), Q[j]? = some q → Q'[j]? = some q' → lang T q = lang T' q'
theorem SameLang.symm {T T' : List PNode} {Q Q' : List Nat} (h : SameLang T Q T' Q') : SameLang T' Q' T Q := ⟨h.1.symm, fun j q q' h1 h2 => (h.2 j q' q h2 h1).symm⟩
theorem SameLang.at {T T' : List PNode} {Q Q' : List Nat} (h : SameLang T Q T' Q') {j q : Nat} (hq : Q[j]? = some q) : ∃ q', Q'[j]? = some q' ∧ lang T q = lang T' q' := by
  have hj := (List.getElem?_eq_some_iff.1 hq).1
  have hq' : Q'[j]? = some (Q'[j]'(by rw [← h.1]; exact hj)) := List.getElem?_eq_getElem _
  exact ⟨_, hq', h.2 j q _ hq hq'⟩
theorem Long.lang {T T' : List PNode} {Q Q' : List Nat} (h : SameLang T Q T' Q') {u : List Int} {n : Nat} {r : Int} (hl : Long T Q u n r) : Long T' Q' u n r := by
  have back : ∀ q' ∈ Q', ∃ q ∈ Q, G.lang T q = G.lang T' q' := fun q' hq' => by
    obtain ⟨j, hj⟩ := List.mem_iff_getElem?.1 hq'
    obtain ⟨q, h1, h2⟩ := h.symm.at hj
    exact ⟨q, List.mem_of_getElem? h1, h2.symm⟩
  rcases hl with ⟨h1, h2, h3⟩ | ⟨h1, h2, j, q, h4, h5, h6, h7, h8⟩
  · refine .inl ⟨h1, h2, fun q' hq' m hm hm2 hv => ?_⟩
    obtain ⟨q, hq, e⟩ := back q' hq'
    exact h3 q hq m hm hm2 (by rw [e]; exact hv)
  · obtain ⟨q', hq', e⟩ := h.at h5
    refine .inr ⟨h1, h2, j, q', h4, hq', by rw [← e]; exact h6, fun p' hp' m hm hm2 hv => ?_, fun i p' hi hp' hv => ?_⟩
    · obtain ⟨p, hp, e2⟩ := back p' hp'
      exact h7 p hp m hm hm2 (by rw [e2]; exact hv)
    · obtain ⟨p, hp, e2⟩ := h.symm.at hp'
      exact h8 i p hi hp (by rw [← e2]; exact hv)
theorem CutR.lang {T T' : List PNode} {Q Q' : List Nat} (h : SameLang T Q T' Q') {s : ByteArray} {k : Nat} {l : List Seg} (hc : CutR T Q s k l) : CutR T' Q' s k l := by
  induction hc with
  | done h1 => exact .done h1
  | cons h1 h2 _ ih => exact .cons h1 (h2.lang h) ih
end G
end Go.Proofs.YtpgcidpghmoibaaGreatDoor

namespace Go.Proofs.YtpgcidpghmoibaaGreatDoor
namespace G
theorem lang_append {T X : List PNode} (hT : WF T) (hX : WF (T ++ X)) : ∀ (n : Nat), n < T.length → lang (T ++ X) n = lang T n := by
  intro n
  induction n using Nat.strongRecOn with
  | ind n ih =>
    intro hn
    have hx : T[n]? = some T[n] := List.getElem?_eq_getElem hn
    have hx' : (T ++ X)[n]? = some T[n] := by rw [List.getElem?_append_left hn]; exact hx
    have hps := (hT n _ hx).parts
    rw [lang_step hT hx, lang_step hX hx']
    have hm : T[n].parts.map (lang (T ++ X)) = T[n].parts.map (lang T) := List.map_congr_left fun p hp => ih p (hps p hp) (by have := hps p hp; omega)
    rw [hm]
    by_cases h1 : T[n].kind = 115
    · rw [if_pos h1, if_pos h1]
    · rw [if_neg h1, if_neg h1]
      by_cases h2 : T[n].kind = 113
      · rw [if_pos h2, if_pos h2]
      · rw [if_neg h2, if_neg h2]
        by_cases h3 : T[n].kind = 99
        · rw [if_pos h3, if_pos h3]
        · rw [if_neg h3, if_neg h3]
          have hk : T[n].parts.length = 1 := by
            rcases (hT n _ hx).kind with ⟨k, _⟩ | ⟨k, _⟩ | ⟨_, k⟩
            · omega
            · omega
            · exact k
          obtain ⟨p, hp⟩ := List.length_eq_one_iff.1 hk
          have hpn := hps p (by rw [hp]; simp)
          rw [hp]
          show Lang.rep _ (lang (T ++ X) p) = Lang.rep _ (lang T p)
          rw [ih p hpn (by omega)]
theorem langs_append {T X : List PNode} (hT : WF T) (hX : WF (T ++ X)) {ps : List Nat} (h : ∀ p ∈ ps, p < T.length) : ps.map (lang (T ++ X)) = ps.map (lang T) :=
  List.map_congr_left fun p hp => lang_append hT hX p (h p hp)
def Holds (s : ByteArray) : Nat → List UInt8 → Prop
  | _, [] => True
  | i, x :: p => pk s i = (x.toNat : Int) ∧ Holds s (i + 1) p
theorem Holds.app {s : ByteArray} : ∀ {p q : List UInt8} {i : Nat}, Holds s i (p ++ q) ↔ Holds s i p ∧ Holds s (i + p.length) q
  | [], q, i => by simp [Holds]
  | x :: p, q, i => by
    have := @Holds.app s p q (i + 1)
    simp only [List.cons_append, Holds, this, List.length_cons, and_assoc]
    rw [show i + 1 + p.length = i + (p.length + 1) by omega]
theorem Holds.cons {s : ByteArray} {i : Nat} {x : UInt8} {p : List UInt8} : Holds s i (x :: p) ↔ pk s i = (x.toNat : Int) ∧ Holds s (i + 1) p := Iff.rfl
theorem holds_self (s : ByteArray) : Holds s 0 s.data.toList := by
  have key : ∀ (n i : Nat), i + n = s.size → Holds s i (s.data.toList.drop i) := by
    intro n
    induction n with
    | zero =>
      intro i h
      rw [List.drop_eq_nil_of_le (by simp only [Array.length_toList]; show s.size ≤ i; omega)]
      trivial
    | succ n ih =>
      intro i h
      have hl : i < s.data.toList.length := by simp only [Array.length_toList]; show i < s.size; omega
      rw [List.drop_eq_getElem_cons hl]
      refine ⟨?_, ih (i + 1) (by omega)⟩
      rw [pk_lt (by omega)]
      congr 1
      simp [U.at', ByteArray.get!]
      rw [Array.getElem!_eq_getD]
      simp [Array.getD]
      rw [dif_pos (show i < s.size from hl)]
  exact key s.size 0 (by omega)
theorem pk_pos {s : ByteArray} {i : Nat} {x : UInt8} (h : pk s i = (x.toNat : Int)) : i < s.size := lt_of_pk (by omega)
theorem Holds.le {s : ByteArray} : ∀ {p : List UInt8} {i : Nat}, Holds s i p → i ≤ s.size → i + p.length ≤ s.size
  | [], i, _, hi => by simpa using hi
  | x :: p, i, h, _ => by
    have := pk_pos h.1
    have := @Holds.le s p (i + 1) h.2 (by omega)
    simp only [List.length_cons]
    omega
theorem R.seq_same {s : ByteArray} {E : List (ByteArray × Nat)} {ps : List Nat} {d i i' : Nat} {T : List PNode} {r : Res} (e : skip s i = skip s i') (h : R s E (.seq ps) d i T r) : R s E (.seq ps) d i' T r := by
  cases h with
  | seqErr h1 h2 => rw [e] at h1 h2; exact .seqErr h1 h2
  | seqRep h1 h2 h3 h4 => rw [e] at h1 h2; exact .seqRep h1 h2 h3 h4
  | seqItem h1 h2 h3 h4 => rw [e] at h1 h2; exact .seqItem h1 h2 h3 h4
  | seqForm h1 => rw [e] at h1 ⊢; exact .seqForm h1
  | seqEnd h1 h2 => rw [e] at h1 ⊢; exact .seqEnd h1 h2
theorem R.expr_same {s : ByteArray} {E : List (ByteArray × Nat)} {ps : List Nat} {d i i' : Nat} {T : List PNode} {r : Res} (e : skip s i = skip s i') (h : R s E (.expr ps) d i T r) : R s E (.expr ps) d i' T r := by
  cases h with
  | exprErr h1 => exact .exprErr (h1.seq_same e)
  | exprMore h1 h2 h3 => exact .exprMore (h1.seq_same e) h2 h3
  | exprEnd h1 h2 => exact .exprEnd (h1.seq_same e) h2
def begins (c : Int) : Bool := decide (c = 40 ∨ c = 46 ∨ c = 39 ∨ c = 91)
theorem begins_atomic {c : Int} (h : begins c = true) : atomic c = true := by
  simp only [begins, atomic, decide_eq_true_eq] at h ⊢
  omega
theorem atomic_skip {s : ByteArray} {i : Nat} (h : begins (pk s i) = true) : skip s i = i := by
  simp only [begins, decide_eq_true_eq] at h
  exact skip_end (by omega) (by omega)
theorem atomic_rep {c : Int} (h : begins c = true) : repeats c = false := by
  simp only [begins, repeats, decide_eq_true_eq, decide_eq_false_iff_not] at h ⊢
  omega
structure At (p : List UInt8) (L : Lang) (m : Nat) : Prop where
  head : ∀ s i, Holds s i p → begins (pk s i) = true
  read : ∀ s d i T, Holds s i p → d + m ≤ 40 → WF T → ∃ n X, R s [] .atom d i T (.ok n (i + p.length) (T ++ X)) ∧ lang (T ++ X) n = L
structure It (p : List UInt8) (L : Lang) (m : Nat) : Prop where
  head : ∀ s i, Holds s i p → begins (pk s (skip s i)) = true
  read : ∀ s d i T ps, Holds s i p → d + m ≤ 40 → WF T → (∀ q ∈ ps, q < T.length) → repeats (pk s (skip s (i + p.length))) = false →
    ∃ qs X, qs ≠ [] ∧ (∀ q ∈ qs, q < (T ++ X).length) ∧ WF (T ++ X) ∧ Lang.seq (qs.map (lang (T ++ X))) = L ∧
      ∀ r, R s [] (.seq (ps ++ qs)) d (skip s (i + p.length)) (T ++ X) r → R s [] (.seq ps) d i T r
def stop (c : Int) : Bool := decide (c = 41 ∨ c = 59 ∨ c = 124)
structure Ex (p : List UInt8) (L : Lang) (m : Nat) : Prop where
  head : ∀ s i, Holds s i p → begins (pk s (skip s i)) = true
  read : ∀ s d i T ps, Holds s i p → d + m ≤ 40 → WF T → (∀ q ∈ ps, q < T.length) → stop (pk s (skip s (i + p.length))) = true →
    ∃ qs X, qs ≠ [] ∧ (∀ q ∈ qs, q < (T ++ X).length) ∧ WF (T ++ X) ∧ Lang.alt (qs.map (lang (T ++ X))) = L ∧
      (pk s (skip s (i + p.length)) = 124 → ∀ r, R s [] (.expr (ps ++ qs)) d (skip s (i + p.length) + 1) (T ++ X) r → R s [] (.expr ps) d i T r) ∧
      (pk s (skip s (i + p.length)) ≠ 124 → R s [] (.expr ps) d i T (.ok (T ++ X).length (skip s (i + p.length)) ((T ++ X) ++ [mk (T ++ X) 99 [] false (ps ++ qs)])))
theorem At.mono {p : List UInt8} {L : Lang} {m m' : Nat} (h : At p L m) (hm : m ≤ m') : At p L m' := ⟨h.head, fun s d i T h1 h2 h3 => h.read s d i T h1 (by omega) h3⟩
theorem It.mono {p : List UInt8} {L : Lang} {m m' : Nat} (h : It p L m) (hm : m ≤ m') : It p L m' := ⟨h.head, fun s d i T ps h1 h2 => h.read s d i T ps h1 (by omega)⟩
theorem Ex.mono {p : List UInt8} {L : Lang} {m m' : Nat} (h : Ex p L m) (hm : m ≤ m') : Ex p L m' := ⟨h.head, fun s d i T ps h1 h2 => h.read s d i T ps h1 (by omega)⟩
theorem At.more {p : List UInt8} {L : Lang} {m : Nat} (h : At p L m) {s : ByteArray} {d i : Nat} {T : List PNode} (hp : Holds s i p) (hd : d + m ≤ 40) (hT : WF T) :
    ∃ n X, R s [] .atom d i T (.ok n (i + p.length) (T ++ X)) ∧ lang (T ++ X) n = L ∧ n < (T ++ X).length ∧ WF (T ++ X) := by
  obtain ⟨n, X, h1, h2⟩ := h.read s d i T hp hd hT
  have ha := h.head s i hp
  have hi : i < s.size := lt_of_pk (by simp only [begins, decide_eq_true_eq] at ha; omega)
  obtain ⟨_, _, f3, f4, _, _⟩ := h1.fine (by omega) hT (by simp [NT.parts]) (by simp [NT.ranges]) (by simp)
  exact ⟨n, X, h1, h2, f3, f4⟩
theorem It.atom {p : List UInt8} {L : Lang} {m : Nat} (h : At p L m) : It p L m := by
  refine ⟨fun s i hp => by rw [atomic_skip (h.head s i hp)]; exact h.head s i hp, ?_⟩
  intro s d i T ps hp hd hT hps hrep
  obtain ⟨n, X, h1, h2, h3, h4⟩ := h.more hp hd hT
  have ha := h.head s i hp
  refine ⟨[n], X, by simp, by simpa using h3, h4, by simp [h2, Lang.seq_one], fun r hr => ?_⟩
  exact .seqItem (by rw [atomic_skip ha]; exact begins_atomic ha) (by rw [atomic_skip ha]; exact h1) hrep hr
theorem It.rep {p : List UInt8} {L : Lang} {m : Nat} (k : UInt8) (hk : k = 42 ∨ k = 43 ∨ k = 63) (h : At p L m) : It (p ++ [k]) (Lang.rep k.toNat L) m := by
  refine ⟨fun s i hp => by have := h.head s i (Holds.app.1 hp).1; rw [atomic_skip this]; exact this, ?_⟩
  intro s d i T ps hp hd hT hps _
  obtain ⟨hp1, hp2⟩ := Holds.app.1 hp
  have hpk : pk s (i + p.length) = (k.toNat : Int) := hp2.1
  obtain ⟨n, X, h1, h2, h3, h4⟩ := h.more hp1 hd hT
  have ha := h.head s i hp1
  have hkn : k.toNat = 42 ∨ k.toNat = 43 ∨ k.toNat = 63 := by rcases hk with rfl | rfl | rfl <;> decide
  have hs : skip s (i + p.length) = i + p.length := skip_end (by omega) (by omega)
  have hrp : repeats (pk s (skip s (i + p.length))) = true := by rw [hs, hpk]; simp only [repeats, decide_eq_true_eq]; omega
  have htn : (pk s (skip s (i + p.length))).toNat = k.toNat := by rw [hs, hpk]; omega
  have hw : WF ((T ++ X) ++ [G.mk (T ++ X) k.toNat [] false [n]]) := h4.snoc k.toNat [] false [n] (by simpa using h3) (by simp) (.inr (.inr ⟨by omega, rfl⟩))
  refine ⟨[(T ++ X).length], X ++ [G.mk (T ++ X) k.toNat [] false [n]], by simp, by simp, by rw [← List.append_assoc]; exact hw, ?_, fun r hr => ?_⟩
  · rw [← List.append_assoc]
    have hx : ((T ++ X) ++ [G.mk (T ++ X) k.toNat [] false [n]])[(T ++ X).length]? = some (G.mk (T ++ X) k.toNat [] false [n]) := by simp
    have := lang_rep hw hx (p := n) (by rcases hkn with e | e | e <;> rw [e] <;> rfl) rfl
    rw [List.map_cons, List.map_nil, Lang.seq_one, this, lang_append h4 hw n h3, h2]
    rfl
  · refine .seqRep (by rw [atomic_skip ha]; exact begins_atomic ha) (by rw [atomic_skip ha]; exact h1) hrp ?_
    rw [htn, hs]
    rw [← List.append_assoc] at hr
    refine hr.seq_same ?_
    rw [skip_skip]
    simp only [List.length_append, List.length_singleton]
    rw [show i + (p.length + 1) = i + p.length + 1 by omega]
theorem It.blank {p : List UInt8} {L : Lang} {m : Nat} (h : It p L m) : It (32 :: p) L m := by
  have e : ∀ s i, pk s i = ((32 : UInt8).toNat : Int) → skip s i = skip s (i + 1) := fun s i hb => skip_blank (.inl hb)
  refine ⟨fun s i hp => by rw [e s i hp.1]; exact h.head s _ hp.2, ?_⟩
  intro s d i T ps hp hd hT hps hrep
  have hl : i + (32 :: p).length = i + 1 + p.length := by simp only [List.length_cons]; omega
  rw [hl] at hrep ⊢
  obtain ⟨qs, X, h1, h2, h3, h4, h5⟩ := h.read s d (i + 1) T ps hp.2 hd hT hps hrep
  exact ⟨qs, X, h1, h2, h3, h4, fun r hr => (h5 r hr).seq_same (e s i hp.1).symm⟩
theorem It.cat {p q : List UInt8} {L L' : Lang} {m : Nat} (h : It p L m) (h' : It q L' m) : It (p ++ q) (Lang.cat L L') m := by
  refine ⟨fun s i hp => h.head s i (Holds.app.1 hp).1, ?_⟩
  intro s d i T ps hp hd hT hps hrep
  obtain ⟨hp1, hp2⟩ := Holds.app.1 hp
  obtain ⟨qs, X, h1, h2, h3, h4, h5⟩ := h.read s d i T ps hp1 hd hT hps (atomic_rep (h'.head s _ hp2))
  have hl : i + (p ++ q).length = i + p.length + q.length := by simp only [List.length_append]; omega
  rw [hl] at hrep ⊢
  obtain ⟨qs', Y, k1, k2, k3, k4, k5⟩ := h'.read s d (i + p.length) (T ++ X) (ps ++ qs) hp2 hd h3 (by
    intro z hz
    rcases List.mem_append.1 hz with hz | hz
    · have := hps z hz; simp only [List.length_append]; omega
    · exact h2 z hz) hrep
  rw [List.append_assoc T X Y] at k2 k3 k4 k5
  refine ⟨qs ++ qs', X ++ Y, by simp [h1], ?_, k3, ?_, fun r hr => h5 r ?_⟩
  · intro z hz
    rcases List.mem_append.1 hz with hz | hz
    · have := h2 z hz; simp only [List.length_append] at this ⊢; omega
    · exact k2 z hz
  · rw [List.map_append, Lang.seq_append, k4]
    have k3' := k3
    rw [← List.append_assoc] at k3'
    rw [← List.append_assoc, langs_append h3 k3' h2, h4]
  · refine (k5 r ?_).seq_same (skip_skip s _).symm
    rw [List.append_assoc ps]
    exact hr
theorem Ex.of {p : List UInt8} {L : Lang} {m : Nat} (h : It p L m) : Ex p L m := by
  refine ⟨h.head, ?_⟩
  intro s d i T ps hp hd hT hps hstop
  simp only [stop, decide_eq_true_eq] at hstop
  obtain ⟨qs, X, h1, h2, h3, h4, h5⟩ := h.read s d i T [] hp hd hT (by simp) (by simp only [repeats, decide_eq_false_iff_not]; omega)
  have hna : atomic (pk s (skip s (skip s (i + p.length)))) = false := by rw [skip_skip]; simp only [atomic, decide_eq_false_iff_not]; omega
  have hw : WF ((T ++ X) ++ [G.mk (T ++ X) 113 [] false qs]) := h3.snoc 113 [] false qs h2 (by simp) (.inr (.inl ⟨.inl rfl, h1⟩))
  have hseq : R s [] (.seq []) d i T (.ok (T ++ X).length (skip s (i + p.length)) ((T ++ X) ++ [G.mk (T ++ X) 113 [] false qs])) := by
    have := h5 _ (.seqEnd hna (by simpa using h1))
    rw [skip_skip] at this
    exact this
  have hx : ((T ++ X) ++ [G.mk (T ++ X) 113 [] false qs])[(T ++ X).length]? = some (G.mk (T ++ X) 113 [] false qs) := by simp
  refine ⟨[(T ++ X).length], X ++ [G.mk (T ++ X) 113 [] false qs], by simp, by simp, by rw [← List.append_assoc]; exact hw, ?_, fun h124 r hr => ?_, fun h124 => ?_⟩
  · rw [← List.append_assoc, List.map_cons, List.map_nil, Lang.alt_one, lang_seq hw hx rfl]
    show Lang.seq (qs.map _) = L
    rw [langs_append h3 hw h2, h4]
  · refine .exprMore hseq (by rw [skip_skip]; exact h124) ?_
    rw [skip_skip]
    rw [← List.append_assoc] at hr
    exact hr
  · have := R.exprEnd (ps := ps) hseq (by rw [skip_skip]; exact h124)
    rw [skip_skip] at this
    rw [← List.append_assoc]
    exact this
theorem Ex.blank {p : List UInt8} {L : Lang} {m : Nat} (h : Ex p L m) : Ex (32 :: p) L m := by
  have e : ∀ s i, pk s i = ((32 : UInt8).toNat : Int) → skip s i = skip s (i + 1) := fun s i hb => skip_blank (.inl hb)
  refine ⟨fun s i hp => by rw [e s i hp.1]; exact h.head s _ hp.2, ?_⟩
  intro s d i T ps hp hd hT hps hstop
  have hl : i + (32 :: p).length = i + 1 + p.length := by simp only [List.length_cons]; omega
  rw [hl] at hstop ⊢
  obtain ⟨qs, X, h1, h2, h3, h4, h5, h6⟩ := h.read s d (i + 1) T ps hp.2 hd hT hps hstop
  exact ⟨qs, X, h1, h2, h3, h4, fun hk r hr => (h5 hk r hr).expr_same (e s i hp.1).symm, fun hk => (h6 hk).expr_same (e s i hp.1).symm⟩
theorem Ex.pad {p : List UInt8} {L : Lang} {m : Nat} (h : Ex p L m) : Ex (p ++ [32]) L m := by
  refine ⟨fun s i hp => h.head s i (Holds.app.1 hp).1, ?_⟩
  intro s d i T ps hp hd hT hps hstop
  obtain ⟨hp1, hp2⟩ := Holds.app.1 hp
  have e : skip s (i + (p ++ [32]).length) = skip s (i + p.length) := by
    have : i + (p ++ [32]).length = i + p.length + 1 := by simp only [List.length_append, List.length_singleton]; omega
    rw [this]
    exact (skip_blank (.inl hp2.1)).symm
  rw [e] at hstop ⊢
  exact h.read s d i T ps hp1 hd hT hps hstop
theorem Ex.or {p q : List UInt8} {L L' : Lang} {m : Nat} (h : Ex p L m) (h' : Ex q L' m) : Ex (p ++ 32 :: 124 :: q) (Lang.alt [L, L']) m := by
  refine ⟨fun s i hp => h.head s i (Holds.app.1 hp).1, ?_⟩
  intro s d i T ps hp hd hT hps hstop
  obtain ⟨hp1, hb, hbar, hp2⟩ := Holds.app.1 hp
  have e : skip s (i + p.length) = i + p.length + 1 := by
    rw [skip_blank (.inl hb)]
    exact skip_end (by rw [hbar]; decide) (by rw [hbar]; decide)
  have hpk : pk s (skip s (i + p.length)) = 124 := by rw [e]; exact hbar
  obtain ⟨qs, X, h1, h2, h3, h4, h5, _⟩ := h.read s d i T ps hp1 hd hT hps (by rw [hpk]; rfl)
  have hl : i + (p ++ 32 :: 124 :: q).length = i + p.length + 1 + 1 + q.length := by simp only [List.length_append, List.length_cons]; omega
  rw [hl] at hstop ⊢
  obtain ⟨qs', Y, k1, k2, k3, k4, k5, k6⟩ := h'.read s d (i + p.length + 1 + 1) (T ++ X) (ps ++ qs) hp2 hd h3 (by
    intro z hz
    rcases List.mem_append.1 hz with hz | hz
    · have := hps z hz; simp only [List.length_append]; omega
    · exact h2 z hz) hstop
  have h5' := h5 hpk
  rw [e] at h5'
  have k3' := k3
  rw [List.append_assoc T X Y] at k2 k3 k4 k5 k6
  refine ⟨qs ++ qs', X ++ Y, by simp [h1], ?_, k3, ?_, fun hk r hr => h5' r (k5 hk r (by rw [List.append_assoc ps]; exact hr)), fun hk => h5' _ ?_⟩
  · intro z hz
    rcases List.mem_append.1 hz with hz | hz
    · have := h2 z hz; simp only [List.length_append] at this ⊢; omega
    · exact k2 z hz
  · have e1 : qs.map (lang (T ++ (X ++ Y))) = qs.map (lang (T ++ X)) := by rw [← List.append_assoc]; exact langs_append h3 k3' h2
    apply Lang.ext
    intro u
    rw [List.map_append, Lang.alt_append, e1, h4, k4]
    simp only [Lang.alt, Lang.none, or_false]
  · have := k6 hk
    rw [List.append_assoc ps] at this
    exact this
theorem At.paren {p : List UInt8} {L : Lang} {m : Nat} (h : Ex p L m) : At (40 :: p ++ [41]) L (m + 1) := by
  refine ⟨fun s i hp => by rw [hp.1]; rfl, ?_⟩
  intro s d i T hp hd hT
  obtain ⟨h40, hp2⟩ := hp
  obtain ⟨hp1, h41, _⟩ := Holds.app.1 hp2
  have h41' : pk s (i + 1 + p.length) = 41 := h41
  have e : skip s (i + 1 + p.length) = i + 1 + p.length := skip_end (by omega) (by omega)
  obtain ⟨qs, X, h1, h2, h3, h4, _, h6⟩ := h.read s (d + 1) (i + 1) T [] hp1 (by omega) hT (by simp) (by rw [e, h41']; rfl)
  have h6' := h6 (by rw [e, h41']; decide)
  rw [e] at h6'
  have hl : i + (40 :: p ++ [41]).length = i + 1 + p.length + 1 := by simp only [List.length_append, List.length_cons, List.length_nil]; omega
  have hw : WF ((T ++ X) ++ [G.mk (T ++ X) 99 [] false ([] ++ qs)]) := h3.snoc 99 [] false ([] ++ qs) (by simpa using h2) (by simp) (.inr (.inl ⟨.inr rfl, by simpa using h1⟩))
  refine ⟨(T ++ X).length, X ++ [G.mk (T ++ X) 99 [] false ([] ++ qs)], ?_, ?_⟩
  · rw [hl, ← List.append_assoc]
    have := R.paren (T := T) h40 (by omega) h6' (by rw [e]; exact h41')
    rw [e] at this
    exact this
  · have hx : ((T ++ X) ++ [G.mk (T ++ X) 99 [] false ([] ++ qs)])[(T ++ X).length]? = some (G.mk (T ++ X) 99 [] false ([] ++ qs)) := by simp
    rw [← List.append_assoc, lang_alt hw hx rfl]
    show Lang.alt (([] ++ qs).map _) = L
    rw [langs_append h3 hw (ps := [] ++ qs) (by simpa using h2), List.nil_append, h4]
end G
end Go.Proofs.YtpgcidpghmoibaaGreatDoor
