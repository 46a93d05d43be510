/-
  THE PROGRAM's MACHINE as plain functions: the places of a node behind others, step by step; their sets are the node's, in order. Nothing of the program is run here. Conditions stand at each fact.
  THE PROGRAM's TREES: the walks of one, repeat, Total, join: what each answers and what it lays. Conditions: the row's length; how many places its parts have.
  THE PROGRAM's MACHINE: the walk of addOr: the parts of a choice, one behind the other. Conditions: what add does with each part; there are at most 100 places.
-/
import Derived.Test.YtpgcidpghmoibaaGreatDoorK33
import Derived.Test.YtpgcidpghmoibaaGreatDoorK32
namespace Go.Proofs.YtpgcidpghmoibaaGreatDoor
namespace Pr
open Go.RowKit
open G (PNode)
theorem foldl_same {α β : Type} {F H : β → α → β} : ∀ (l : List α) (i : β), (∀ s, ∀ p ∈ l, F s p = H s p) → l.foldl F i = l.foldl H i
  | [], _, _ => rfl
  | a :: l, i, h => by
    simp only [List.foldl_cons]
    rw [h i a (by simp)]
    exact foldl_same l _ (fun s p hp => h s p (by simp [hp]))
theorem addF_fuel {T : List PNode} (hT : G.WF T) : ∀ (n f g : Nat) (P : List Pl), n < f → n < g → addF T f n P = addF T g n P := by
  intro n
  induction n using Nat.strongRecOn with
  | ind n ih =>
    intro f g P hf hg
    match f, g, hf, hg with
    | f + 1, g + 1, hf, hg =>
      cases hx : T[n]? with
      | none => simp [addF, hx]
      | some x =>
        have hps := (hT n x hx).parts
        have hhd : x.parts ≠ [] → x.parts.headD 0 < n := fun hne => by
          match hp : x.parts, hne with
          | p :: ps, _ => exact hps p (by rw [hp]; simp)
        simp only [addF, hx]
        by_cases h1 : G.lone x = true
        · rw [if_pos h1, if_pos h1]
          obtain ⟨p, hp⟩ := G.lone_head h1
          exact ih _ (hhd (by rw [hp]; simp)) f g P (by have := hhd (by rw [hp]; simp); omega) (by have := hhd (by rw [hp]; simp); omega)
        · rw [if_neg h1, if_neg h1]
          by_cases h2 : x.kind = 115
          · rw [if_pos h2, if_pos h2]
          · rw [if_neg h2, if_neg h2]
            by_cases h3 : x.kind = 113
            · rw [if_pos h3, if_pos h3]
              exact foldl_same _ _ (fun s p hp => by have := hps p hp; rw [ih p this f g s.1 (by omega) (by omega)])
            · rw [if_neg h3, if_neg h3]
              by_cases h4 : x.kind = 99
              · rw [if_pos h4, if_pos h4]
                exact foldl_same _ _ (fun s p hp => by have := hps p hp; rw [ih p this f g s.1 (by omega) (by omega)])
              · rw [if_neg h4, if_neg h4]
                have hne : x.parts ≠ [] := by
                  rcases (hT n x hx).kind with ⟨k, _⟩ | ⟨k, _⟩ | ⟨_, k⟩
                  · exact absurd k h2
                  · omega
                  · intro e; rw [e] at k; simp at k
                have := hhd hne
                rw [ih _ this f g P (by omega) (by omega)]
def adN (T : List PNode) (n : Nat) (P : List Pl) : List Pl × En := addF T (n + 1) n P
def foldS (T : List PNode) (ps : List Nat) (s : List Pl × En) : List Pl × En := ps.foldl (fun s p => seqStep s (adN T p s.1)) s
def foldO (T : List PNode) (ps : List Nat) (s : List Pl × En) : List Pl × En := ps.foldl (fun s p => orStep s (adN T p s.1)) s
theorem foldS_snoc (T : List PNode) (ps : List Nat) (p : Nat) (s : List Pl × En) : foldS T (ps ++ [p]) s = seqStep (foldS T ps s) (adN T p (foldS T ps s).1) := by simp [foldS]
theorem foldO_snoc (T : List PNode) (ps : List Nat) (p : Nat) (s : List Pl × En) : foldO T (ps ++ [p]) s = orStep (foldO T ps s) (adN T p (foldO T ps s).1) := by simp [foldO]
theorem adN_eq {T : List PNode} (hT : G.WF T) {n : Nat} {x : PNode} (hx : T[n]? = some x) (P : List Pl) : adN T n P =
    if G.lone x = true then adN T (x.parts.headD 0) P
    else if x.kind = 115 then (P ++ [⟨x, 0, false, ⟨0, 0⟩⟩], ⟨PB.zero.with P.length, PB.zero.with P.length, false⟩)
    else if x.kind = 113 then foldS T x.parts (P, ⟨PB.zero, PB.zero, true⟩)
    else if x.kind = 99 then foldO T x.parts (P, ⟨PB.zero, PB.zero, false⟩)
    else repStep x.kind (adN T (x.parts.headD 0) P) := by
  have hps := (hT n x hx).parts
  have hhd : x.parts ≠ [] → x.parts.headD 0 < n := fun hne => by
    match hp : x.parts, hne with
    | p :: ps, _ => exact hps p (by rw [hp]; simp)
  rw [adN, addF, hx]
  simp only
  by_cases h1 : G.lone x = true
  · rw [if_pos h1, if_pos h1]
    obtain ⟨p, hp⟩ := G.lone_head h1
    have := hhd (by rw [hp]; simp)
    exact addF_fuel hT _ _ _ P this (by omega)
  · rw [if_neg h1, if_neg h1]
    by_cases h2 : x.kind = 115
    · rw [if_pos h2, if_pos h2]
    · rw [if_neg h2, if_neg h2]
      by_cases h3 : x.kind = 113
      · rw [if_pos h3, if_pos h3]
        exact foldl_same _ _ (fun s p hp => by have := hps p hp; rw [adN, addF_fuel hT p n (p + 1) s.1 (by omega) (by omega)])
      · rw [if_neg h3, if_neg h3]
        by_cases h4 : x.kind = 99
        · rw [if_pos h4, if_pos h4]
          exact foldl_same _ _ (fun s p hp => by have := hps p hp; rw [adN, addF_fuel hT p n (p + 1) s.1 (by omega) (by omega)])
        · rw [if_neg h4, if_neg h4]
          have hne : x.parts ≠ [] := by
            rcases (hT n x hx).kind with ⟨k, _⟩ | ⟨k, _⟩ | ⟨_, k⟩
            · exact absurd k h2
            · omega
            · intro e; rw [e] at k; simp at k
          have := hhd hne
          rw [adN, addF_fuel hT _ n (x.parts.headD 0 + 1) P this (by omega)]
def xs (P : List Pl) : List PNode := P.map Pl.x
theorem xs_len (P : List Pl) : (xs P).length = P.length := by simp [xs]
theorem lnk_xs (x y : PB) (P : List Pl) : xs (lnk x y P) = xs P := by
  unfold xs lnk lnkP
  apply List.ext_getElem?
  intro i
  simp only [List.getElem?_map, List.getElem?_mapIdx]
  cases P[i]? with
  | none => rfl
  | some p =>
    simp only [Option.map_some]
    split <;> rfl
theorem foldS_xs {T : List PNode} : ∀ (ps : List Nat) (s : List Pl × En), (∀ p ∈ ps, ∀ P, xs (adN T p P).1 = xs P ++ G.lv T p) → xs (foldS T ps s).1 = xs s.1 ++ ps.flatMap (G.lv T)
  | [], s, _ => by simp [foldS]
  | p :: ps, s, h => by
    have ih := foldS_xs ps (seqStep s (adN T p s.1)) (fun q hq => h q (by simp [hq]))
    have e : foldS T (p :: ps) s = foldS T ps (seqStep s (adN T p s.1)) := rfl
    rw [e, ih]
    show xs (lnk _ _ _) ++ _ = _
    rw [lnk_xs, h p (by simp)]
    simp
theorem foldO_xs {T : List PNode} : ∀ (ps : List Nat) (s : List Pl × En), (∀ p ∈ ps, ∀ P, xs (adN T p P).1 = xs P ++ G.lv T p) → xs (foldO T ps s).1 = xs s.1 ++ ps.flatMap (G.lv T)
  | [], s, _ => by simp [foldO]
  | p :: ps, s, h => by
    have ih := foldO_xs ps (orStep s (adN T p s.1)) (fun q hq => h q (by simp [hq]))
    have e : foldO T (p :: ps) s = foldO T ps (orStep s (adN T p s.1)) := rfl
    rw [e, ih]
    show xs (adN T p s.1).1 ++ _ = _
    rw [h p (by simp)]
    simp
theorem adN_xs {T : List PNode} (hT : G.WF T) : ∀ (n : Nat), n < T.length → ∀ P, xs (adN T n P).1 = xs P ++ G.lv T n := by
  intro n
  induction n using Nat.strongRecOn with
  | ind n ih =>
    intro hn P
    have hx : T[n]? = some (T[n]'hn) := List.getElem?_eq_getElem hn
    generalize T[n]'hn = x at hx
    have hps := (hT n x hx).parts
    have hih : ∀ p ∈ x.parts, ∀ P, xs (adN T p P).1 = xs P ++ G.lv T p := fun p hp P => by have := hps p hp; exact ih p this (by omega) P
    rw [adN_eq hT hx, G.lv_step hT hx]
    by_cases h1 : G.lone x = true
    · have hk : x.kind ≠ 115 := by
        simp only [G.lone, Bool.and_eq_true, Bool.or_eq_true, decide_eq_true_eq] at h1
        omega
      rw [if_pos h1, if_neg hk]
      obtain ⟨p, hp⟩ := G.lone_head h1
      rw [hp]
      show xs (adN T p P).1 = _
      rw [hih p (by rw [hp]; simp)]
      simp
    · rw [if_neg h1]
      by_cases h2 : x.kind = 115
      · rw [if_pos h2, if_pos h2]
        simp [xs]
      · rw [if_neg h2, if_neg h2]
        by_cases h3 : x.kind = 113
        · rw [if_pos h3]
          exact foldS_xs _ _ hih
        · rw [if_neg h3]
          by_cases h4 : x.kind = 99
          · rw [if_pos h4]
            exact foldO_xs _ _ hih
          · rw [if_neg h4]
            have hk : x.parts.length = 1 := by
              rcases (hT n x hx).kind with ⟨k, _⟩ | ⟨k, _⟩ | ⟨_, k⟩
              · exact absurd k h2
              · omega
              · exact k
            obtain ⟨p, hp⟩ := List.length_eq_one_iff.1 hk
            rw [hp]
            have e : xs (repStep x.kind (adN T p P)).1 = xs (adN T p P).1 := by
              unfold repStep
              by_cases h5 : x.kind = 63
              · rw [if_pos h5]
              · rw [if_neg h5]
                exact lnk_xs _ _ _
            show xs (repStep x.kind (adN T p P)).1 = _
            rw [e, hih p (by rw [hp]; simp)]
            simp
theorem adN_len {T : List PNode} (hT : G.WF T) (n : Nat) (hn : n < T.length) (P : List Pl) : (adN T n P).1.length = P.length + (G.lv T n).length := by
  rw [← xs_len, adN_xs hT n hn, List.length_append, xs_len]
theorem foldS_len {T : List PNode} (hT : G.WF T) (ps : List Nat) (hp : ∀ p ∈ ps, p < T.length) (s : List Pl × En) : (foldS T ps s).1.length = s.1.length + (ps.flatMap (G.lv T)).length := by
  rw [← xs_len, foldS_xs ps s (fun p h P => adN_xs hT p (hp p h) P), List.length_append, xs_len]
theorem foldO_len {T : List PNode} (hT : G.WF T) (ps : List Nat) (hp : ∀ p ∈ ps, p < T.length) (s : List Pl × En) : (foldO T ps s).1.length = s.1.length + (ps.flatMap (G.lv T)).length := by
  rw [← xs_len, foldO_xs ps s (fun p h P => adN_xs hT p (hp p h) P), List.length_append, xs_len]
theorem flat_take {T : List PNode} {ps : List Nat} {k p : Nat} (h : ps[k]? = some p) : ((ps.take k).flatMap (G.lv T)).length + (G.lv T p).length ≤ (ps.flatMap (G.lv T)).length := by
  have hk : k < ps.length := (List.getElem?_eq_some_iff.1 h).1
  have e : ps = ps.take k ++ p :: ps.drop (k + 1) := by
    rw [← List.getElem_of_getElem? h |>.2]
    simp
  conv => rhs; rw [e]
  simp
end Pr
end Go.Proofs.YtpgcidpghmoibaaGreatDoor

namespace Go.Proofs.YtpgcidpghmoibaaGreatDoor
namespace Pr
open Go.RowKit
open Rf (Kept)
open G (PNode)
theorem heap_two (w : World) (o o2 : Obj) : ((w.alloc o).alloc o2).heap[w.heap.size + 1]? = some o2 := by
  have := heap_alloc_new (w.alloc o) o2
  rw [show (w.alloc o).heap.size = w.heap.size + 1 by simp] at this
  exact this
theorem own_made (w : World) (base e size n : Nat) (cs : Array Value) (hb : base ≤ w.heap.size) (hn : cs.size = n * size) (hm : n ≤ maxLen) : (w.alloc (.cells cs e)).ownsRow base e size (.slice (some ⟨w.heap.size, 0, none⟩) n n) n cs.toList := by
  refine ⟨by simpa using hn, .inr ⟨w.heap.size, n, cs, rfl, hb, heap_alloc_new w _, Nat.le_refl _, hm, hn, ?_⟩⟩
  rw [List.take_of_length_le (by simpa using Nat.le_of_eq hn)]
set_option maxRecDepth 100000 in
set_option maxHeartbeats 1000000 in
theorem leaf_any (w : World) (vr : Value) (o : Bool) (hv : ∃ a n c, vr = .slice a n c) : Calls Tryz.prog 153 #[.agg #[vr, .bool o]] w fun e w' => ∃ a, e = .returned (pv a) ∧ w.heap.size ≤ a ∧ w'.heap[a]? = some (.cells (leafCells vr o) 149 (0, 0)) ∧ Below w.heap.size w w' := by
  obtain ⟨a, n, c, rfl⟩ := hv
  go_enter Tryz.func153, Tryz.ntmps153
  go_wp2
  go_ret
  refine ⟨_, rfl, ?_, heap_two _ _ _, ((Below.refl _ w).alloc (Nat.le_refl _) _).alloc (by simp) _⟩
  simp
set_option maxRecDepth 100000 in
set_option maxHeartbeats 1000000 in
theorem repeat_any (w : World) (k p n : Nat) (hp : w.cell? ⟨p, 4, none⟩ = some (.int .i64 (n : Int))) :
    Calls Tryz.prog 149 #[.int .i64 (k : Int), pv p] w fun e w' => ∃ a g, e = .returned (pv a) ∧ w.heap.size ≤ a ∧ w.heap.size ≤ g ∧ w'.heap[a]? = some (.cells (innerCells k (.slice (some ⟨g, 0, none⟩) 1 1) n) 149 (0, 0)) ∧ w'.ownsRow 0 143 1 (.slice (some ⟨g, 0, none⟩) 1 1) 1 [pv p] ∧ Below w.heap.size w w' := by
  unfold pv
  have hpl := block_lt_of_cell hp
  go_enter Tryz.func149, Tryz.ntmps149
  go_wp2
  go_ret
  refine ⟨_, rfl, ?_, w.heap.size, Nat.le_refl _, heap_two _ _ _, ?_, ((Below.refl _ w).alloc (Nat.le_refl _) _).alloc (by simp) _⟩
  · simp
  · exact (own_made w 0 143 1 1 #[.pointer (some ⟨p, 0, none⟩)] (Nat.zero_le _) rfl (by unfold maxLen; omega)).alloc _
theorem take_snoc {α : Type} {l : List α} {k : Nat} {x : α} (h : l[k]? = some x) : l.take (k + 1) = l.take k ++ [x] := by
  rw [List.take_add_one, h]
  rfl
set_option maxRecDepth 100000 in
set_option maxHeartbeats 1000000 in
theorem total_any (w : World) (T : List PNode) (B ps : List Nat) (v : Value) (h : w.ownsRow 0 143 1 v ps.length (ptrs B ps)) (hn : ps.length ≤ 100000) (hc : ∀ p ∈ ps, w.cell? ⟨bl B p, 4, none⟩ = some (.int .i64 (G.sz T p : Int))) (hb : ∀ p ∈ ps, G.sz T p ≤ 101) :
    Calls Tryz.prog 50 #[v] w fun e w' => e = .returned (.int .i64 ((min (G.sizeOf T ps) 101 : Nat) : Int)) ∧ w' = w := by
  obtain ⟨va, vc, hve⟩ := Rf.own_len h
  subst hve
  go_enter Tryz.func50, Tryz.ntmps50
  go_wp2
  go_loopw [3, 8] (fun vt vk wr => ∃ k t : Nat, vk = .int .i64 k ∧ k ≤ ps.length ∧ vt = .int .i64 t ∧ t = min (G.sizeOf T (ps.take k)) 101 ∧ wr = w) (fun _ vk _ => ps.length - (intOf vk).toNat)
  case atStart => exact ⟨0, 0, rfl, Nat.zero_le _, rfl, rfl, rfl⟩
  case round =>
    obtain ⟨k, t, rfl, hk, rfl, ht, rfl⟩ := hrel
    have HT : Hid _ := ht
    have ht1 : t ≤ 101 := by omega
    clear ht
    by_cases hlt : k < ps.length
    · have hx : ps[k]? = some (ps[k]'hlt) := List.getElem?_eq_getElem _
      generalize ps[k]'hlt = p at hx
      have hpm := List.mem_of_getElem? hx
      obtain ⟨g, cap, hv, _, _⟩ := h.form (by omega)
      simp only [Value.slice.injEq] at hv
      obtain ⟨rfl, _, rfl⟩ := hv
      have c0 : wr.cell? ⟨g, k, none⟩ = some (.pointer (some ⟨bl B p, 0, none⟩)) := own_cell' h k (by simp [ptrs, hx, pv])
      have c1 := hc p hpm
      have hsb := hb p hpm
      have hst : G.sizeOf T (ps.take (k + 1)) = G.sizeOf T (ps.take k) + G.sz T p := by
        rw [take_snoc hx]
        simp [G.sizeOf]
      have HS : Hid _ := hst
      clear hst
      generalize hq : G.sz T p = q at c1 hsb
      have HQ : Hid _ := hq
      clear hq hc hb
      go_wp2
      refine ⟨⟨k + 1, min (t + q) 101, by go_num, by omega, ?_, ?_, by first | rfl | trivial⟩, by simp [intOf]; omega⟩
      · congr 1
        omega
      · rw [HS.out, HQ.out, HT.out]
        omega
    · have e : k = ps.length := by omega
      subst e
      have hlt' : ¬ (ps.length : Int) < (ps.length : Int) := by omega
      go_wp2
      go_ret
      refine ⟨?_, rfl⟩
      rw [HT.out, List.take_length]
      rfl
set_option maxRecDepth 100000 in
set_option maxHeartbeats 1000000 in
theorem join_one (w : World) (B : List Nat) (k p : Nat) (v : Value) (h : w.ownsRow 0 143 1 v 1 (ptrs B [p])) : Calls Tryz.prog 129 #[.int .i64 (k : Int), v] w fun e w' => e = .returned (pv (bl B p)) ∧ w' = w := by
  obtain ⟨g, cap, hv, _, _⟩ := h.form (by omega)
  subst hv
  have c0 : w.cell? ⟨g, 0, none⟩ = some (.pointer (some ⟨bl B p, 0, none⟩)) := own_cell' h 0 (by simp [ptrs, pv])
  go_enter Tryz.func129, Tryz.ntmps129
  go_wp2
  go_ret
  exact ⟨rfl, rfl⟩
set_option maxRecDepth 100000 in
set_option maxHeartbeats 1000000 in
theorem join_many (w : World) (T : List PNode) (B ps : List Nat) (k : Nat) (v : Value) (h : w.ownsRow 0 143 1 v ps.length (ptrs B ps)) (h1 : ps.length ≠ 1) (hn : ps.length ≤ 100000) (hc : ∀ p ∈ ps, w.cell? ⟨bl B p, 4, none⟩ = some (.int .i64 (G.sz T p : Int))) (hb : ∀ p ∈ ps, G.sz T p ≤ 101) :
    Calls Tryz.prog 129 #[.int .i64 (k : Int), v] w fun e w' => ∃ a, e = .returned (pv a) ∧ w.heap.size ≤ a ∧ w'.heap[a]? = some (.cells (innerCells k v (min (G.sizeOf T ps) 101)) 149 (0, 0)) ∧ Below w.heap.size w w' := by
  have hT := total_any w T B ps v h hn hc hb
  obtain ⟨va, vc, hve⟩ := Rf.own_len h
  subst hve
  have hne : ¬ (ps.length : Int) = 1 := by omega
  generalize min (G.sizeOf T ps) 101 = q at *
  go_enter Tryz.func129, Tryz.ntmps129
  go_wp2_with (go_at_call 50; refine hT.mono ?_; rintro e w1 ⟨rfl, rfl⟩)
  go_ret
  exact ⟨_, rfl, Nat.le_refl _, heap_alloc_new _ _, (Below.refl _ _).alloc (Nat.le_refl _) _⟩
end Pr
end Go.Proofs.YtpgcidpghmoibaaGreatDoor

namespace Go.Proofs.YtpgcidpghmoibaaGreatDoor
namespace Pr
open Go.RowKit
open Rf (Kept Lies)
open G (PNode)
def AddAt (I : Nat → Prop) (b : Nat) (T : List PNode) (B : List Nat) (n : Nat) : Prop :=
  ∀ (w : World) (v : Value) (P : List Pl) (V : List Value) (f : PB), MaAt w I b v P V f → Tree w I T B → P.length + (G.lv T n).length ≤ 100 → Calls Tryz.prog 104 #[pv b, pv (bl B n)] w fun e w' => APost I b f w v (adN T n P) e w'
set_option maxRecDepth 100000 in
set_option maxHeartbeats 2000000 in
theorem addor_any (I : Nat → Prop) (b : Nat) (T : List PNode) (B ps : List Nat) (hIH : ∀ p ∈ ps, AddAt I b T B p) (hpl : ∀ p ∈ ps, p < T.length) (hT : G.WF T) (w : World) (v : Value) (P : List Pl) (V : List Value) (f : PB) (vp : Value)
    (hM : MaAt w I b v P V f) (hTr : Tree w I T B) (hp : Parts w I B ps vp) (hn : ps.length ≤ 100000) (hsz : P.length + (ps.flatMap (G.lv T)).length ≤ 100) :
    Calls Tryz.prog 132 #[pv b, vp] w fun e w' => APost I b f w v (foldO T ps (P, ⟨PB.zero, PB.zero, false⟩)) e w' := by
  obtain ⟨va, vc, hve⟩ := Rf.own_len hp.row
  subst hve
  have HI : Hid (Hd w I b v P V f ⟨PB.zero, PB.zero, false⟩ v _) := Hd.start hM hTr.lt ⟨PB.zero, PB.zero, false⟩
  go_enter Tryz.func132, Tryz.ntmps132
  go_wp2
  go_loopw [7, 8, 11] (fun _ _ vk wr => ∃ (k : Nat) (v' : Value) (V' : List Value), vk = .int .i64 k ∧ k ≤ ps.length ∧ Hd w I b v (foldO T (ps.take k) (P, ⟨PB.zero, PB.zero, false⟩)).1 V' f (foldO T (ps.take k) (P, ⟨PB.zero, PB.zero, false⟩)).2 v' wr) (fun _ _ vk _ => ps.length - (intOf vk).toNat)
  case atStart => exact ⟨0, v, V, rfl, Nat.zero_le _, HI.out⟩
  case round =>
    obtain ⟨k, v', V', rfl, hk, hH⟩ := hrel
    by_cases hlt : k < ps.length
    · have hlt' : (k : Int) < (ps.length : Int) := by omega
      have hx : ps[k]? = some (ps[k]'hlt) := List.getElem?_eq_getElem _
      generalize ps[k]'hlt = p at hx
      have hpm := List.mem_of_getElem? hx
      have hfl := foldO_len hT (ps.take k) (fun q hq => hpl q (List.mem_of_mem_take hq)) (P, ⟨PB.zero, PB.zero, false⟩)
      have hft := flat_take (T := T) hx
      have hS : foldO T (ps.take (k + 1)) (P, ⟨PB.zero, PB.zero, false⟩) = orStep (foldO T (ps.take k) (P, ⟨PB.zero, PB.zero, false⟩)) (adN T p (foldO T (ps.take k) (P, ⟨PB.zero, PB.zero, false⟩)).1) := by
        rw [take_snoc hx, foldO_snoc]
      have HS : Hid _ := hS
      clear hS
      generalize foldO T (ps.take k) (P, ⟨PB.zero, PB.zero, false⟩) = s at *
      obtain ⟨SP, sf, sl, se⟩ := s
      simp only at hfl hH
      have hP := hp.mv hH.mv hTr.lt hM.ib hM.iv
      obtain ⟨g, cap, hv, _, _⟩ := hP.row.form (by omega)
      simp only [Value.slice.injEq] at hv
      obtain ⟨rfl, _, rfl⟩ := hv
      have c0 : wr.cell? ⟨g, k, none⟩ = some (.pointer (some ⟨bl B p, 0, none⟩)) := own_cell' hP.row k (by simp [ptrs, hx, pv])
      have hA := hIH p hpm wr v' SP V' f hH.ma (hH.mv.tree hTr hM.ib hM.iv) (by omega)
      unfold APost at hA
      generalize adN T p SP = r at *
      obtain ⟨RP, rf, rl, re⟩ := r
      simp only at hA
      clear hIH hfl hft
      cases se
      all_goals
        go_wp2_with (first
          | (go_at_call 104
             refine hA.mono ?_
             rintro e w1 ⟨rfl, v1, V1, hM1, hv1⟩
             have M1 := hH.add hM1 hv1 ⟨rf, rl, re⟩
             have e5 := M1.hd.e5.reads
             simp only at e5
             obtain ⟨a0, a1, a2, a3, a4, af⟩ := e5)
          | (go_at_call 105
             have M2G := M2F
             refine (bor_any _ sl rl).mono ?_
             rintro e w3 ⟨rfl, hb3⟩
             have M3 := M2F.below hb3
             have e5 := M3.hd.e5.reads
             obtain ⟨i0, i1, i2, i3, i4, if'⟩ := e5
             have M3L := M3.l5 (sl.or rl)
             have e5 := M3L.hd.e5.reads
             unfold setL at e5
             obtain ⟨l0, l1, l2, l3, l4, lf⟩ := e5
             have e8 := M3L.e8.reads
             unfold setL at e8
             obtain ⟨m0, m1, m2, m3, m4, _⟩ := e8)
          | (go_at_call 105
             refine (bor_any _ sf rf).mono ?_
             rintro e w2 ⟨rfl, hb2⟩
             have M2 := M1.below hb2
             have e5 := M2.hd.e5.reads
             obtain ⟨b0, b1, b2, b3, b4, bf⟩ := e5
             have M2F := M2.f5 (sf.or rf)
             have e5 := M2F.hd.e5.reads
             unfold setF at e5
             obtain ⟨f0, f1, f2, f3, f4, ff⟩ := e5
             have e8 := M2F.e8.reads
             unfold setF at e8
             obtain ⟨h0, h1, h2, h3, h4, _⟩ := e8))
        refine ⟨⟨k + 1, v1, V1, by go_num, by omega, ?_⟩, by simp [intOf]; omega⟩
        rw [HS.out]
        exact (M3L.e5' _).hd
    · have e : k = ps.length := by omega
      subst e
      have hlt' : ¬ (ps.length : Int) < (ps.length : Int) := by omega
      rw [List.take_length] at hH
      obtain ⟨s, hs⟩ : ∃ s, foldO T ps (P, ⟨PB.zero, PB.zero, false⟩) = s := ⟨_, rfl⟩
      rw [hs] at hH
      obtain ⟨SP, sf, sl, se⟩ := s
      have HE : Hid _ := hs
      clear hs
      simp only at hH
      obtain ⟨a0, a1, a2, a3, a4, af⟩ := hH.e5.reads
      have e4 := hH.e4.reads
      unfold En.zero PB.zero at e4
      obtain ⟨z0, z1, z2, z3, z4, zf⟩ := e4
      go_wp2
      change bodyPost _ _ _ _ _ (setEn wr w.heap.size ⟨sf, sl, se⟩)
      obtain ⟨d1, d2, d3⟩ := hH.done
      generalize setEn wr w.heap.size ⟨sf, sl, se⟩ = w6 at *
      obtain ⟨R0, R1, R2, R3, R4, _⟩ := d1.reads
      refine bodyPost_ret (by simp [results, Tryz.results132, go_sem, R0, R1, R2, R3, R4]; try rfl) rfl ?_
      unfold APost
      rw [HE.out]
      exact ⟨rfl, v', V', d2, d3⟩
end Pr
end Go.Proofs.YtpgcidpghmoibaaGreatDoor
