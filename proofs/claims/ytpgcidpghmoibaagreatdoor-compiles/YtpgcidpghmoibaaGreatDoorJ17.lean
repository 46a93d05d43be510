/-
  THE PROGRAM's MACHINE: the walk of addRule: the places of a rule behind those of the others. Conditions: the table of nodes is well made; there are at most 100 places.
  THE PROGRAM's MACHINE: the walk of New: the places of all rules. Conditions: the table of nodes is well made; there are at most 100 places.
  THE PROGRAM's READER with its trees and its names: what stands while it reads, and what is left where something was read. Nothing of the program is run here. Conditions stand at each fact.
  THE PROGRAM's READER: the walk of quote: what the form says of a quote, as a tree. Conditions: the reader stands at the quote's beginning.
  THE PROGRAM's READER: the walk of quote: what the form says of a quote, as a tree. Conditions: the reader stands at the quote's beginning.
  THE PROGRAM's READER: the walk of part: a range of a set, or an error and its place. Conditions: the source has at most 2000 bytes, the place lies in it; the library's tables lie in memory as the text lays them.
-/
import Derived.Test.YtpgcidpghmoibaaGreatDoorJ16
import Derived.Deep.Cut
import Derived.Deep.CutRange
import Derived.Maps.Own
import Derived.Maps.OwnOps
import Derived.Maps.OwnSet
import Derived.Test.YtpgcidpghmoibaaGreatDoorJ05
import Derived.Test.YtpgcidpghmoibaaGreatDoorJ15
namespace Go.Proofs.YtpgcidpghmoibaaGreatDoor
namespace Pr
open Go.RowKit
open Rf (Kept Lies)
open G (PNode)

/-- Places from k0 up to k are a rule's. -/
def Pl.mark (p : Pl) (rule : Nat) (b : Bool) : Pl := ⟨p.x, rule, b, p.be⟩
def mrk (k0 k rule : Nat) (l : PB) (P : List Pl) : List Pl := P.mapIdx fun i p => if decide (k0 ≤ i) && decide (i < k) then p.mark rule (l.has i) else p
theorem mrk_len (k0 k rule : Nat) (l : PB) (P : List Pl) : (mrk k0 k rule l P).length = P.length := by simp [mrk]
theorem mrk_none (k0 rule : Nat) (l : PB) (P : List Pl) : mrk k0 k0 rule l P = P := by
  apply List.ext_getElem?
  intro i
  have : (decide (k0 ≤ i) && decide (i < k0)) = false := by
    rw [Bool.and_eq_false_iff, decide_eq_false_iff_not, decide_eq_false_iff_not]
    omega
  simp only [mrk, List.getElem?_mapIdx, this, Bool.false_eq_true, if_false]
  simp
theorem mrk_get (k0 k rule : Nat) (l : PB) (P : List Pl) (p : Pl) (h : P[k]? = some p) : (mrk k0 k rule l P)[k]? = some p := by
  simp [mrk, h]
theorem mrk_next (k0 k rule : Nat) (l : PB) (P : List Pl) (p : Pl) (hk : k0 ≤ k) (h : P[k]? = some p) : mrk k0 (k + 1) rule l P = (mrk k0 k rule l P).set k (p.mark rule (l.has k)) := by
  have hkl : k < P.length := (List.getElem?_eq_some_iff.1 h).1
  apply List.ext_getElem?
  intro i
  by_cases e : k = i
  · subst e
    rw [List.getElem?_set_self (by rw [mrk_len]; exact hkl)]
    simp [mrk, h, hk]
  · rw [List.getElem?_set_ne e]
    simp only [mrk, List.getElem?_mapIdx]
    have : decide (i < k + 1) = decide (i < k) := by rw [decide_eq_decide]; omega
    rw [this]
theorem mrk_xs (k0 k rule : Nat) (l : PB) (P : List Pl) : xs (mrk k0 k rule l P) = xs P := by
  unfold xs mrk
  apply List.ext_getElem?
  intro i
  simp only [List.getElem?_map, List.getElem?_mapIdx]
  cases P[i]? with
  | none => rfl
  | some p =>
    simp only [Option.map_some]
    split <;> rfl
/-- A rule more: its places, and with which a match may begin. -/
def ruleStep (T : List PNode) (rule n : Nat) (s : List Pl × PB) : List Pl × PB :=
  (mrk s.1.length (adN T n s.1).1.length rule (adN T n s.1).2.l (adN T n s.1).1, s.2.or (adN T n s.1).2.f)
theorem ruleStep_xs {T : List PNode} (hT : G.WF T) (rule n : Nat) (hn : n < T.length) (s : List Pl × PB) : xs (ruleStep T rule n s).1 = xs s.1 ++ G.lv T n := by
  unfold ruleStep
  rw [mrk_xs, adN_xs hT n hn]

/-- Behind the places of a rule. -/
structure Ru (w0 : World) (I : Nat → Prop) (b : Nat) (v0 : Value) (k7 g n cap : Nat) (P : List Pl) (V : List Value) (f : PB) (en : En) (w : World) : Prop where
  ma : MaAt w I b (.slice (some ⟨g, 0, none⟩) n cap) P V f
  mv : Mv b w0 v0 w (.slice (some ⟨g, 0, none⟩) n cap)
  e7 : EnAt w k7 en
  n7 : w0.heap.size ≤ k7
  ng : g ≠ k7
  lt : b < w0.heap.size
  hI : ∀ k, I k → k < w0.heap.size
theorem Ru.below {w0 : World} {I : Nat → Prop} {b : Nat} {v0 : Value} {k7 g n cap : Nat} {P : List Pl} {V : List Value} {f : PB} {en : En} {w w2 : World} (h : Ru w0 I b v0 k7 g n cap P V f en w) (hb : Below w.heap.size w w2) : Ru w0 I b v0 k7 g n cap P V f en w2 where
  ma := h.ma.below (fun k hk => Nat.lt_of_lt_of_le (h.hI k hk) h.mv.kept.size) hb
  mv := h.mv.trans (Mv.of_below hb)
  e7 := (hb.block _ (lt_of_block h.e7)).trans h.e7
  n7 := h.n7
  ng := h.ng
  lt := h.lt
  hI := h.hI
theorem Ru.start {w w1 : World} {I : Nat → Prop} {b : Nat} {v : Value} {g n cap : Nat} {P P1 : List Pl} {V V1 : List Value} {f : PB} (hM : MaAt w I b v P V f) (hI : ∀ k, I k → k < w.heap.size) (hM1 : MaAt w1 I b (.slice (some ⟨g, 0, none⟩) n cap) P1 V1 f) (hv : Mv b w v w1 (.slice (some ⟨g, 0, none⟩) n cap)) (x : En) :
    Ru w I b v w1.heap.size g n cap P1 V1 f x (w1.alloc (.cells #[.int .u64 x.f.a, .int .u64 x.f.c, .int .u64 x.l.a, .int .u64 x.l.c, .bool x.e] 184)) := by
  have hb : Below w1.heap.size w1 (w1.alloc (.cells #[.int .u64 x.f.a, .int .u64 x.f.c, .int .u64 x.l.a, .int .u64 x.l.c, .bool x.e] 184)) := (Below.refl _ _).alloc (Nat.le_refl _) _
  have hs := hv.kept.size
  have hg := (hM1.row.lt g rfl).2
  exact { ma := hM1.below (fun k hk => by have := hI k hk; omega) hb, mv := hv.trans (Mv.of_below hb), e7 := heap_alloc_new w1 _, n7 := by omega, ng := by omega, lt := lt_of_block hM.blk, hI := hI }
/-- With which a match may begin is written. -/
theorem Ru.first {w0 : World} {I : Nat → Prop} {b : Nat} {v0 : Value} {k7 g n cap : Nat} {P : List Pl} {V : List Value} {f : PB} {en : En} {w : World} (h : Ru w0 I b v0 k7 g n cap P V f en w) (f' : PB) : Ru w0 I b v0 k7 g n cap P V f' en ((w.setCell ⟨b, 1, none⟩ (.int .u64 f'.a)).setCell ⟨b, 2, none⟩ (.int .u64 f'.c)) := by
  have hlt := h.lt
  have h7 := h.n7
  exact { ma := h.ma.first f', mv := ⟨(h.mv.kept.setCell (fun hn => hn.1 rfl) _).setCell (fun hn => hn.1 rfl) _, h.mv.lies⟩, e7 := (Rf.blk_ne _ (by omega)).trans ((Rf.blk_ne _ (by omega)).trans h.e7), n7 := h.n7, ng := h.ng, lt := h.lt, hI := h.hI }
/-- A cell of a place is written. -/
theorem Ru.put {w0 : World} {I : Nat → Prop} {b : Nat} {v0 : Value} {k7 g n cap : Nat} {P : List Pl} {V : List Value} {f : PB} {en : En} {w : World} (h : Ru w0 I b v0 k7 g n cap P V f en w) (hn : n = P.length) (k : Nat) (p p' : Pl) (hp : P[k]? = some p) (o : Nat) (ho : o < 6) (u : Value) (hx : p'.x = p.x) (hc : ∀ v, pcell p' v = (pcell p v).set o u) :
    Ru w0 I b v0 k7 g n cap (P.set k p') V f en (w.setCell ⟨g, k * 6 + o, none⟩ u) := by
  subst hn
  have h1 := h.ma.put k p p' hp o ho u hx hc
  rw [List.length_set] at h1
  refine { ma := h1, mv := ⟨?_, h.mv.lies⟩, e7 := (Rf.blk_ne _ (fun e => h.ng e.symm)).trans h.e7, n7 := h.n7, ng := h.ng, lt := h.lt, hI := h.hI }
  rcases h.mv.lies g rfl with e | e
  · exact h.mv.kept.setCell (fun hn => hn.2 e) _
  · exact h.mv.kept.setNew e _

structure RuReads (w : World) (b g n cap k : Nat) (f : PB) (p : Pl) : Prop where
  m0 : w.cell? ⟨b, 0, none⟩ = some (.slice (some ⟨g, 0, none⟩) n cap)
  p2 : w.cell? ⟨g, k * 6 + 2, none⟩ = some (.int .i64 (p.rule : Int))
  p3 : w.cell? ⟨g, k * 6 + 3, none⟩ = some (.bool p.last)
  fr : ∀ o, w.frozen? ⟨g, o, none⟩ = false
theorem MaAt.pl2 {w : World} {I : Nat → Prop} {b g n cap : Nat} {P : List Pl} {V : List Value} {f : PB} (h : MaAt w I b (.slice (some ⟨g, 0, none⟩) n cap) P V f) {k : Nat} {p : Pl} (hp : P[k]? = some p) : RuReads w b g n cap k f p := by
  have hkl : k < P.length := (List.getElem?_eq_some_iff.1 hp).1
  have hv : V[k]? = some (V[k]'(by rw [h.len]; exact hkl)) := List.getElem?_eq_getElem _
  have hm0 := Rf.cell_blk h.blk 0 _ rfl
  have hrow := h.row
  obtain ⟨a, c, he⟩ := Rf.own_len hrow
  simp only [Value.slice.injEq] at he
  obtain ⟨_, he, _⟩ := he
  subst he
  exact ⟨hm0, own_cell' hrow (k * 6 + 2) ((pcells_get hp hv 2 (by omega)).trans rfl), own_cell' hrow (k * 6 + 3) ((pcells_get hp hv 3 (by omega)).trans rfl), fun o => hrow.frozenAt o⟩

set_option maxRecDepth 100000 in
set_option maxHeartbeats 4000000 in
theorem addrule_any (I : Nat → Prop) (b : Nat) (T : List PNode) (B : List Nat) (hT : G.WF T) (n : Nat) (hnl : n < T.length) (rule : Nat) (w : World) (v : Value) (P : List Pl) (V : List Value) (f : PB)
    (hM : MaAt w I b v P V f) (hTr : Tree w I T B) (hsz : P.length + (G.lv T n).length ≤ 100) :
    Calls Tryz.prog 79 #[pv b, .int .i64 (rule : Int), pv (bl B n)] w fun e w' => e = .returned (.tuple #[]) ∧ ∃ v' V', MaAt w' I b v' (ruleStep T rule n (P, f)).1 V' (ruleStep T rule n (P, f)).2 ∧ Mv b w v w' v' := by
  have hA := add_any I b T B hT n hnl w v P V f hM hTr hsz
  have hrl : (adN T n P).1.length = P.length + (G.lv T n).length := adN_len hT n hnl P
  have hpos : 1 ≤ (G.lv T n).length := G.pl_pos hT n hnl
  unfold APost at hA
  unfold ruleStep
  simp only
  generalize adN T n P = r at *
  obtain ⟨RP, rf, rl, re⟩ := r
  simp only at hA hrl ⊢
  obtain ⟨va, vc, hve⟩ := Rf.own_len hM.row
  subst hve
  have m0 := Rf.cell_blk hM.blk 0 (.slice va P.length vc) rfl
  have hlen : RP.length ≤ 100 := by omega
  go_enter Tryz.func79, Tryz.ntmps79
  go_upto_region 2 with (go_at_call 104
                         refine hA.mono ?_
                         rintro e w1 ⟨rfl, v1, V1, hM1, hv1⟩
                         obtain ⟨g, cap, hv, _, _⟩ := hM1.row.form (by omega)
                         subst hv
                         have M1 := Ru.start hM hTr.lt hM1 hv1 ⟨rf, rl, re⟩
                         have f1 := Rf.cell_blk M1.ma.blk 1 (.int .u64 f.a) rfl
                         have f2 := Rf.cell_blk M1.ma.blk 2 (.int .u64 f.c) rfl
                         have f3 := fun o => Rf.free_blk M1.ma.blk o)
  go_cut [] from 17 to 26 (fun wx => Ru w I b (.slice va P.length vc) w1.heap.size g RP.length cap RP V1 (f.or rf) ⟨rf, rl, re⟩ wx)
  case first =>
    go_region_with (go_at_call 105; refine (bor_any _ f rf).mono ?_; rintro e w2 ⟨rfl, hb2⟩; have M2 := M1.below ((Below.refl _ _).drew.trans hb2); have q1 := Rf.cell_blk M2.ma.blk 1 (.int .u64 f.a) rfl; have q2 := Rf.cell_blk M2.ma.blk 2 (.int .u64 f.c) rfl; have q3 := fun o => Rf.free_blk M2.ma.blk o)
    all_goals (try go_wp2_with fail)
    all_goals go_meet
    all_goals exact M2.first (f.or rf)
  case rest =>
    have m0 := Rf.cell_blk hcut.ma.blk 0 (.slice (some ⟨g, 0, none⟩) RP.length cap) rfl
    generalize w1.heap.size = k7 at *
    have HC : Hid _ := hcut
    clear hcut M1 f1 f2 f3
    go_wp2
    clear m0
    go_loopw [8] (fun vk wr => ∃ k : Nat, vk = .int .i64 k ∧ P.length ≤ k ∧ k ≤ RP.length ∧ Ru w I b (.slice va P.length vc) k7 g RP.length cap (mrk P.length k rule rl RP) V1 (f.or rf) ⟨rf, rl, re⟩ wr) (fun vk _ => RP.length - (intOf vk).toNat)
    case atStart => exact ⟨P.length, rfl, Nat.le_refl _, by omega, by rw [mrk_none]; exact HC.out⟩
    case round =>
      obtain ⟨k, rfl, hk0, hk, hL⟩ := hrel
      have m0 := Rf.cell_blk hL.ma.blk 0 (.slice (some ⟨g, 0, none⟩) RP.length cap) rfl
      by_cases hlt : k < RP.length
      · have hlt' : (k : Int) < (RP.length : Int) := by omega
        have hp : RP[k]? = some (RP[k]'hlt) := List.getElem?_eq_getElem _
        generalize RP[k]'hlt = p at hp
        obtain ⟨_, p2, p3, fr⟩ := hL.ma.pl2 (mrk_get P.length k rule rl RP p hp)
        have hl0 := mrk_len P.length k rule rl RP
        have L6 := hL.put hl0.symm k p ⟨p.x, rule, p.last, p.be⟩ (mrk_get P.length k rule rl RP p hp) 2 (by omega) (.int .i64 (rule : Int)) rfl (fun v => rfl)
        have hp6 : ((mrk P.length k rule rl RP).set k ⟨p.x, rule, p.last, p.be⟩)[k]? = some ⟨p.x, rule, p.last, p.be⟩ := List.getElem?_set_self (by rw [hl0]; exact hlt)
        have hN : mrk P.length (k + 1) rule rl RP = ((mrk P.length k rule rl RP).set k ⟨p.x, rule, p.last, p.be⟩).set k (p.mark rule (rl.has k)) := by rw [List.set_set, mrk_next P.length k rule rl RP p hk0 hp]
        have HN : Hid _ := hN
        clear hN
        go_upto_region 7 with fail
        clear m0 p2 p3 fr
        generalize wr.setCell ⟨g, k * 6 + 2, none⟩ (.int .i64 (rule : Int)) = w6 at *
        obtain ⟨n0, q2, q3, fr⟩ := L6.ma.pl2 hp6
        obtain ⟨z0, z1, z2, z3, z4, zf⟩ := L6.e7.reads
        go_region_with (go_at_call 106; refine (bhas_any _ rl k (by omega)).mono ?_; rintro e w7 ⟨rfl, hb7⟩; have L7 := L6.below ((Below.refl _ _).drew.trans hb7); obtain ⟨n1, s2, s3, fr2⟩ := L7.ma.pl2 hp6)
        all_goals
          have L8 := L7.put (by rw [List.length_set]; exact hl0.symm) k ⟨p.x, rule, p.last, p.be⟩ (p.mark rule (rl.has k)) hp6 3 (by omega) (.bool (rl.has k)) rfl (fun v => rfl)
          rw [← HN.out] at L8
          have HL : Hid _ := L8
          clear L8 n0 q2 q3 fr z0 z1 z2 z3 z4 zf n1 s2 s3 fr2
          go_wp2
          exact ⟨⟨k + 1, by go_num, by omega, by omega, HL.out⟩, by simp [intOf]; omega⟩
      · have e : k = RP.length := by omega
        subst e
        have hlt' : ¬ (RP.length : Int) < (RP.length : Int) := by omega
        go_wp2
        first | go_ret2 | go_ret3 | go_returns
        refine ⟨rfl, _, ⟨V1, ?_⟩, hL.mv⟩
        rw [← hrl]
        exact hL.ma

end Pr
end Go.Proofs.YtpgcidpghmoibaaGreatDoor

namespace Go.Proofs.YtpgcidpghmoibaaGreatDoor
namespace Pr
open Go.RowKit
open Rf (Kept Lies)
open G (PNode)

/-- The machine of the first k rules. -/
def machN (T : List PNode) (Q : List Nat) : Nat → List Pl × PB
  | 0 => ([], PB.zero)
  | k + 1 => ruleStep T k (Q.getD k 0) (machN T Q k)
theorem machN_xs {T : List PNode} (hT : G.WF T) {Q : List Nat} (hQ : ∀ q ∈ Q, q < T.length) : ∀ k, k ≤ Q.length → xs (machN T Q k).1 = (Q.take k).flatMap (G.lv T)
  | 0, _ => by simp [machN, xs]
  | k + 1, hk => by
    have ih := machN_xs hT hQ k (by omega)
    have hx : Q[k]? = some (Q[k]'(by omega)) := List.getElem?_eq_getElem _
    have hg : Q.getD k 0 = Q[k]'(by omega) := by simp [List.getD, hx]
    rw [machN, ruleStep_xs hT k _ (by rw [hg]; exact hQ _ (List.getElem_mem _)), ih, hg, take_snoc hx]
    simp only [List.flatMap_append, List.flatMap_cons, List.flatMap_nil, List.append_nil]
theorem machN_len {T : List PNode} (hT : G.WF T) {Q : List Nat} (hQ : ∀ q ∈ Q, q < T.length) (k : Nat) (hk : k ≤ Q.length) : (machN T Q k).1.length = ((Q.take k).flatMap (G.lv T)).length := by
  rw [← xs_len, machN_xs hT hQ k hk]

set_option maxRecDepth 100000 in
set_option maxHeartbeats 2000000 in
theorem new_any (w : World) (I : Nat → Prop) (T : List PNode) (B Q : List Nat) (vR : Value) (hT : G.WF T) (hTr : Tree w I T B) (hrow : w.ownsRow 0 143 1 vR Q.length (ptrs B Q)) (hQ : ∀ q ∈ Q, q < T.length) (hn : Q.length ≤ 100000) (hsz : (Q.flatMap (G.lv T)).length ≤ 100) :
    Calls Tryz.prog 52 #[vR] w fun e w' => e = .returned (pv w.heap.size) ∧ (∃ v V, MaAt w' I w.heap.size v (machN T Q Q.length).1 V (machN T Q Q.length).2) ∧ Below w.heap.size w w' := by
  obtain ⟨va, vc, hve⟩ := Rf.own_len hrow
  subst hve
  have hb0 : Below w.heap.size w (w.alloc (.cells #[.slice none 0 0, .int .u64 0, .int .u64 0] 155)) := (Below.refl _ w).alloc (Nat.le_refl _) _
  have nn : ∀ k, (Value.slice none 0 0).ownBlock ≠ some k := fun k e => by simp [Value.ownBlock] at e
  have hM0 : MaAt (w.alloc (.cells #[.slice none 0 0, .int .u64 0, .int .u64 0] 155)) I w.heap.size (.slice none 0 0) [] [] PB.zero := { blk := heap_alloc_new w _, len := rfl, row := World.ownsRow_nil _ _ _ _, sets := fun k p u hp => by simp at hp, nb := nn _, ib := fun h => by have := hTr.lt _ h; omega, iv := fun k e => absurd e (nn k) }
  have HM0 : Hid _ := hM0
  go_enter Tryz.func52, Tryz.ntmps52
  go_wp2
  go_loopw [4, 5, 10] (fun _ _ vk wr => ∃ (k : Nat) (v : Value) (V : List Value), vk = .int .i64 k ∧ k ≤ Q.length ∧ MaAt wr I w.heap.size v (machN T Q k).1 V (machN T Q k).2 ∧ Mv w.heap.size (w.alloc (.cells #[.slice none 0 0, .int .u64 0, .int .u64 0] 155)) (.slice none 0 0) wr v) (fun _ _ vk _ => Q.length - (intOf vk).toNat)
  case atStart => exact ⟨0, _, _, rfl, Nat.zero_le _, HM0.out, Mv.refl _ _ _⟩
  case round =>
    obtain ⟨k, v, V, rfl, hk, hM, hv⟩ := hrel
    have hbw : Below w.heap.size w wr := ⟨hv.kept.os, hv.kept.tape, hv.kept.output, by have := hv.kept.size; simp at this; omega, fun j hj => (hv.kept.block j (by simp; omega) ⟨by omega, nn j⟩).trans (hb0.block j hj)⟩
    by_cases hlt : k < Q.length
    · have hlt' : (k : Int) < (Q.length : Int) := by omega
      have hx : Q[k]? = some (Q[k]'hlt) := List.getElem?_eq_getElem _
      have hg : Q.getD k 0 = Q[k]'hlt := by simp [List.getD, hx]
      generalize Q[k]'hlt = q at hx hg
      have hqm := List.mem_of_getElem? hx
      have hrow1 := Rf.own_same (w' := wr) hrow (fun j e => hbw.block j (hrow.lt j e).2)
      obtain ⟨g, cap, hve, _, _⟩ := hrow1.form (by omega)
      simp only [Value.slice.injEq] at hve
      obtain ⟨rfl, _, rfl⟩ := hve
      have c0 : wr.cell? ⟨g, k, none⟩ = some (.pointer (some ⟨bl B q, 0, none⟩)) := own_cell' hrow1 k (by simp [ptrs, hx, pv])
      have hml := machN_len hT hQ k hk
      have hft := flat_take (T := T) hx
      have hA := addrule_any I w.heap.size T B hT q (hQ q hqm) k wr v (machN T Q k).1 V (machN T Q k).2 hM (hTr.below hbw) (by omega)
      have hS : machN T Q (k + 1) = ruleStep T k q ((machN T Q k).1, (machN T Q k).2) := by rw [machN, hg]
      rw [← hS] at hA
      have HX : Hid _ := And.intro hM (And.intro hv hbw)
      clear hM hS hrow1 hml hft hg
      go_wp2_with (go_at_call 79; refine hA.mono ?_; rintro e w1 ⟨rfl, v1, V1, hM1, hv1⟩)
      exact ⟨⟨k + 1, v1, V1, by go_num, by omega, hM1, hv.trans hv1⟩, by simp [intOf]; omega⟩
    · have e : k = Q.length := by omega
      subst e
      have hlt' : ¬ (Q.length : Int) < (Q.length : Int) := by omega
      have HX : Hid _ := And.intro hM hbw
      clear hM hv
      go_wp2
      go_ret
      exact ⟨rfl, ⟨v, V, HX.out.1⟩, HX.out.2⟩

end Pr
end Go.Proofs.YtpgcidpghmoibaaGreatDoor

namespace Go.Proofs.YtpgcidpghmoibaaGreatDoor
namespace Pr
open Go.RowKit Go.Maps
open Rf (Kept)
open G (PNode)

/-- An element of the map of names, as it is. -/
def heldR (v : Value) : Option (DataW Value × List MemPlace) := some (.held v, [])
def envV (E : List (ByteArray × Nat)) (B : List Nat) (nm : ByteArray) : Value := match G.lookup E nm with
  | some p => pv (bl B p)
  | none => .pointer none
/-- The map of names. -/
def EnvAt (w : World) (bm : Nat) (E : List (ByteArray × Nat)) (B : List Nat) : Prop :=
  ∃ D n, w.ownsMap Tryz.prog 9 heldR bm n D ∧ n ≤ E.length ∧ ∀ nm : ByteArray, nm.size ≤ maxLen → D.atKey (.string nm.data.toList) (.held (.pointer none)) = .held (envV E B nm)

theorem EnvAt.kept {w w' : World} {bm : Nat} {E : List (ByteArray × Nat)} {B : List Nat} (h : EnvAt w bm E B) (hk : w'.heap[bm]? = w.heap[bm]?) : EnvAt w' bm E B := by
  obtain ⟨D, n, ⟨es, clock, h1, h2⟩, h3⟩ := h
  exact ⟨D, n, ⟨es, clock, hk.trans h1, h2⟩, h3⟩
theorem EnvAt.lt {w : World} {bm : Nat} {E : List (ByteArray × Nat)} {B : List Nat} (h : EnvAt w bm E B) : bm < w.heap.size := by
  obtain ⟨D, n, h1, _⟩ := h
  exact h1.lt
theorem lookup_mem {E : List (ByteArray × Nat)} {nm : ByteArray} {p : Nat} (h : G.lookup E nm = some p) : ∃ x ∈ E, x.2 = p := by
  unfold G.lookup at h
  cases hf : E.find? fun x => decide (x.1 = nm) with
  | none => rw [hf] at h; cases h
  | some x =>
    rw [hf] at h
    simp only [Option.map_some, Option.some.injEq] at h
    exact ⟨x, List.mem_of_find?_eq_some hf, h⟩
theorem envV_app {E : List (ByteArray × Nat)} {B X : List Nat} (hE : ∀ x ∈ E, x.2 < B.length) (nm : ByteArray) : envV E (B ++ X) nm = envV E B nm := by
  unfold envV
  cases h : G.lookup E nm with
  | none => rfl
  | some p =>
    obtain ⟨x, hx, rfl⟩ := lookup_mem h
    simp only
    rw [bl_app (hE x hx)]
theorem EnvAt.app {w : World} {bm : Nat} {E : List (ByteArray × Nat)} {B X : List Nat} (h : EnvAt w bm E B) (hE : ∀ x ∈ E, x.2 < B.length) : EnvAt w bm E (B ++ X) := by
  obtain ⟨D, n, h1, h2, h3⟩ := h
  exact ⟨D, n, h1, h2, fun nm hn => by rw [envV_app hE]; exact h3 nm hn⟩

/-- A reader with its trees and its names. -/
structure PS (w : World) (b : Nat) (s : ByteArray) (c : C) (bm : Nat) (vR : Value) (I : Nat → Prop) (T : List PNode) (B : List Nat) (E : List (ByteArray × Nat)) : Prop where
  rb : RB w b s c (.map (some bm)) vR
  tr : Tree w I T B
  env : EnvAt w bm E B
  tab : Tabs w
  own : Own b
  nb : ¬ I b
  nm : ¬ I bm
  bb : bm ≠ b
  wf : G.WF T
  el : ∀ x ∈ E, x.2 < T.length
  ci : c.i ≤ s.size
  sz : s.size ≤ 2000

/-- The reader alone has turned, or memory was made. -/
theorem PS.step {w w' : World} {b : Nat} {s : ByteArray} {c c' : C} {bm : Nat} {vR : Value} {I : Nat → Prop} {T : List PNode} {B : List Nat} {E : List (ByteArray × Nat)} (h : PS w b s c bm vR I T B E) (hg : Gr b w w') (hr : RB w' b s c' (.map (some bm)) vR) (hi : c'.i ≤ s.size) : PS w' b s c' bm vR I T B E where
  rb := hr
  tr := h.tr.gr hg h.nb
  env := h.env.kept (hg.block bm h.env.lt h.bb)
  tab := h.tab.gr hg h.own
  own := h.own
  nb := h.nb
  nm := h.nm
  bb := h.bb
  wf := h.wf
  el := h.el
  ci := hi
  sz := h.sz
theorem PS.below {w w' : World} {b : Nat} {s : ByteArray} {c : C} {bm : Nat} {vR : Value} {I : Nat → Prop} {T : List PNode} {B : List Nat} {E : List (ByteArray × Nat)} (h : PS w b s c bm vR I T B E) (hb : Below w.heap.size w w') : PS w' b s c bm vR I T B E :=
  h.step (Gr.below hb) (h.rb.below hb) h.ci

/-- One node more, whose blocks are new. -/
theorem PS.add {w : World} {b : Nat} {s : ByteArray} {c : C} {bm : Nat} {vR : Value} {I I' : Nat → Prop} {T : List PNode} {B : List Nat} {E : List (ByteArray × Nat)} {y : PNode} {a : Nat} (h : PS w b s c bm vR I T B E) (hI : ∀ k, I k → I' k) (hlt : ∀ k, I' k → k < w.heap.size) (hnb : ¬ I' b) (hnm : ¬ I' bm) (hp : ∀ p ∈ y.parts, p < T.length) (hy : NodeAt w I' B a y) (hw : G.WF (T ++ [y])) : PS w b s c bm vR I' (T ++ [y]) (B ++ [a]) E where
  rb := h.rb
  tr := h.tr.snoc h.wf hI hlt hp hy
  env := h.env.app (fun x hx => by rw [h.tr.len]; exact h.el x hx)
  tab := h.tab
  own := h.own
  nb := hnb
  nm := hnm
  bb := h.bb
  wf := hw
  el x hx := by have := h.el x hx; simp; omega
  ci := h.ci
  sz := h.sz

/-- A leaf. -/
theorem PS.leaf {w0 w : World} {b : Nat} {s : ByteArray} {c : C} {bm : Nat} {vR : Value} {I : Nat → Prop} {T : List PNode} {B : List Nat} {E : List (ByteArray × Nat)} {rs : List (Nat × Nat)} {o : Bool} {vr : Value} {rs' : List (Nat × Nat)} {a : Nat}
    (h : PS w b s c bm vR I T B E) (hb0 : b < w0.heap.size) (hm0 : bm < w0.heap.size) (ha : w0.heap.size ≤ a) (hblk : w.heap[a]? = some (.cells (leafCells vr o) 149 (0, 0))) (ho : w.ownsRow w0.heap.size 197 2 vr rs'.length (rc rs')) (hok : SetOk rs' rs) (hbd : ∀ r ∈ rs, r.1 ≤ 1114111 ∧ r.2 ≤ 1114111) :
    ∃ I', PS w b s c bm vR I' (T ++ [G.mk T 115 rs o []]) (B ++ [a]) E ∧ Ext w0 I B I' (B ++ [a]) := by
  refine ⟨fun k => I k ∨ k = a ∨ vr.ownBlock = some k, h.add (fun k hk => .inl hk) ?_ ?_ ?_ (by simp [G.mk]) ?_ (h.wf.snoc 115 rs o [] (by simp) hbd (.inl ⟨rfl, rfl⟩)), ⟨fun k hk => .inl hk, ?_, [a], rfl⟩⟩
  · rintro k (hk | rfl | hk)
    · exact h.tr.lt k hk
    · exact lt_of_block hblk
    · exact (ho.lt k hk).2
  · rintro (hk | hk | hk)
    · exact h.nb hk
    · omega
    · have := (ho.lt b hk).1; omega
  · rintro (hk | hk | hk)
    · exact h.nm hk
    · omega
    · have := (ho.lt bm hk).1; omega
  · unfold NodeAt
    rw [if_neg (by simp [G.lone, G.mk]), if_pos (show (G.mk T 115 rs o []).kind = 115 from rfl)]
    exact ⟨.inr (.inl rfl), vr, rs', hblk, own_low ho (Nat.zero_le _), hok, fun k e => .inr (.inr e)⟩
  · rintro k (hk | rfl | hk)
    · exact .inl hk
    · exact .inr ha
    · exact .inr (ho.lt k hk).1

/-- A node with one part that repeats nothing: its part. -/
theorem PS.alone {w : World} {b : Nat} {s : ByteArray} {c : C} {bm : Nat} {vR : Value} {I : Nat → Prop} {T : List PNode} {B : List Nat} {E : List (ByteArray × Nat)} {k p : Nat} (h : PS w b s c bm vR I T B E) (hk : k = 113 ∨ k = 99) (hp : p < T.length) :
    PS w b s c bm vR I (T ++ [G.mk T k [] false [p]]) (B ++ [bl B p]) E := by
  refine h.add (fun _ h => h) h.tr.lt h.nb h.nm (by simpa [G.mk] using hp) ?_ (h.wf.snoc k [] false [p] (by simpa using hp) (by simp) (.inr (.inl ⟨hk, by simp⟩)))
  unfold NodeAt
  rw [if_pos (by rcases hk with rfl | rfl <;> simp [G.lone, G.mk])]
  rfl

theorem lone_iff {x : PNode} : G.lone x = true ↔ (x.kind = 113 ∨ x.kind = 99) ∧ x.parts.length = 1 := by
  unfold G.lone
  rw [Bool.and_eq_true, Bool.or_eq_true, decide_eq_true_iff, decide_eq_true_iff, decide_eq_true_iff]

/-- A node with its row of parts. -/
theorem PS.inner {w0 w : World} {b : Nat} {s : ByteArray} {c : C} {bm : Nat} {vR : Value} {I : Nat → Prop} {T : List PNode} {B : List Nat} {E : List (ByteArray × Nat)} {k : Nat} {ps : List Nat} {v : Value} {a : Nat}
    (h : PS w b s c bm vR I T B E) (hb0 : b < w0.heap.size) (hm0 : bm < w0.heap.size) (ha : w0.heap.size ≤ a) (hk : ((k = 113 ∨ k = 99) ∧ ps ≠ [] ∧ ps.length ≠ 1) ∨ ((k = 42 ∨ k = 43 ∨ k = 63) ∧ ps.length = 1)) (hp : ∀ p ∈ ps, p < T.length)
    (hblk : w.heap[a]? = some (.cells (innerCells (kindN k) v (min (G.sizeOf T ps) 101)) 149 (0, 0))) (ho : w.ownsRow w0.heap.size 143 1 v ps.length (ptrs B ps)) :
    ∃ I', PS w b s c bm vR I' (T ++ [G.mk T k [] false ps]) (B ++ [a]) E ∧ Ext w0 I B I' (B ++ [a]) := by
  have hk115 : k ≠ 115 := by omega
  refine ⟨fun j => I j ∨ j = a ∨ v.ownBlock = some j, h.add (fun k hk => .inl hk) ?_ ?_ ?_ (by simpa [G.mk] using hp) ?_ (h.wf.snoc k [] false ps hp (by simp) ?_), ⟨fun k hk => .inl hk, ?_, [a], rfl⟩⟩
  · rintro j (hj | rfl | hj)
    · exact h.tr.lt j hj
    · exact lt_of_block hblk
    · exact (ho.lt j hj).2
  · rintro (hj | hj | hj)
    · exact h.nb hj
    · omega
    · have := (ho.lt b hj).1; omega
  · rintro (hj | hj | hj)
    · exact h.nm hj
    · omega
    · have := (ho.lt bm hj).1; omega
  · unfold NodeAt
    have hl : ¬ G.lone (G.mk T k [] false ps) = true := by
      intro hl
      have hl2 := lone_iff.1 hl
      simp only [G.mk] at hl2
      rcases hk with ⟨_, _, h3⟩ | ⟨h3, _⟩
      · exact h3 hl2.2
      · omega
    rw [if_neg hl, if_neg (by simpa [G.mk] using hk115)]
    refine ⟨.inr (.inl rfl), v, ?_, own_low ho (Nat.zero_le _), fun j e => .inr (.inr e)⟩
    rw [hblk]
    simp [G.mk, hk115]
  · rcases hk with ⟨h1, h2, _⟩ | ⟨h1, h2⟩
    · exact .inr (.inl ⟨h1, h2⟩)
    · exact .inr (.inr ⟨h1, h2⟩)
  · rintro j (hj | rfl | hj)
    · exact .inl hj
    · exact .inr ha
    · exact .inr (ho.lt j hj).1

/-- What is left where something was read. -/
def RPost (w : World) (b : Nat) (s : ByteArray) (c : C) (bm : Nat) (vR : Value) (I : Nat → Prop) (B : List Nat) (E : List (ByteArray × Nat)) (r : G.Res) (e : Ending) (w' : World) : Prop :=
  Gr b w w' ∧ match r with
    | .ok n j T' => ∃ I' B', e = .returned (pv (bl B' n)) ∧ PS w' b s { c with i := G.skip s j } bm vR I' T' B' E ∧ Ext w I B I' B'
    | .err er p => e = .returned (.pointer none) ∧ ∃ i d, RB w' b s ⟨i, d, p, er⟩ (.map (some bm)) vR

end Pr
end Go.Proofs.YtpgcidpghmoibaaGreatDoor

namespace Go.Proofs.YtpgcidpghmoibaaGreatDoor
namespace Pr
open Go.RowKit Go.Maps
open Rf (Kept)
open G (PNode)

theorem infoP : (Tryz.prog.info? 143).map (fun i => (i.zero, i.size, i.bytes)) = some (some (.pointer none), 1, 8) := by kernel_rfl

/-- A row of trees of one's own. -/
structure LocP (w : World) (base : Nat) (I : Nat → Prop) (B : List Nat) (v : Value) (ps : List Nat) : Prop where
  own : w.ownsRow base 143 1 v ps.length (ptrs B ps)
  out : ∀ k, v.ownBlock = some k → ¬ I k
theorem LocP.nil (w : World) (base : Nat) (I : Nat → Prop) (B : List Nat) : LocP w base I B (.slice none 0 0) [] := ⟨World.ownsRow_nil _ _ _ _, fun k e => by simp [Value.ownBlock] at e⟩
theorem LocP.gr {w w' : World} {base : Nat} {I : Nat → Prop} {B : List Nat} {v : Value} {ps : List Nat} {b : Nat} (h : LocP w base I B v ps) (hg : Gr b w w') (hb : b < base) : LocP w' base I B v ps :=
  ⟨own_same_at h.own (fun k e => hg.block k (h.own.lt k e).2 (by have := (h.own.lt k e).1; omega)), h.out⟩
theorem LocP.below {w w' : World} {base : Nat} {I : Nat → Prop} {B : List Nat} {v : Value} {ps : List Nat} (h : LocP w base I B v ps) (hg : Below w.heap.size w w') : LocP w' base I B v ps :=
  ⟨own_same_at h.own (fun k e => hg.block k (h.own.lt k e).2), h.out⟩
theorem LocP.ext {w w0 : World} {base : Nat} {B B' : List Nat} {v : Value} {ps : List Nat} {I I' : Nat → Prop} (h : LocP w base I B v ps) (he : Ext w0 I B I' B') (hp : ∀ p ∈ ps, p < B.length) (hl : ∀ k, v.ownBlock = some k → k < w0.heap.size) : LocP w base I' B' v ps :=
  ⟨by rw [he.ptrs hp]; exact h.own, fun k e hk => by
    rcases he.new k hk with h2 | h2
    · exact h.out k e h2
    · have := hl k e
      omega⟩

/-- A row of trees grew by one; what stands beside it. -/
theorem grow_gr {b : Nat} {w0 w w6 : World} {o : Obj} {v : Value} {base : Nat} (hg0 : Gr b w0 w) (hbase : w0.heap.size ≤ base) (hv : ∀ k, v.ownBlock = some k → base ≤ k) (hg : (w.alloc o).grownBy w6 v.ownBlock) : Gr b w0 w6 :=
  (hg0.alloc o).grown hg (fun k e hk => by have := hv k e; omega)
theorem grow_ps {w w6 : World} {b : Nat} {s : ByteArray} {c : C} {bm : Nat} {vR : Value} {I : Nat → Prop} {T : List PNode} {B : List Nat} {E : List (ByteArray × Nat)} {o : Obj} {v : Value} (h : PS w b s c bm vR I T B E) (hg : (w.alloc o).grownBy w6 v.ownBlock) (hI : ∀ k, v.ownBlock = some k → ¬ I k) (hb : v.ownBlock ≠ some b) (hm : v.ownBlock ≠ some bm) (ht : ∀ k, v.ownBlock = some k → Own k) : PS w6 b s c bm vR I T B E := by
  have hk : ∀ k, k < w.heap.size → v.ownBlock ≠ some k → w6.heap[k]? = w.heap[k]? := fun k hk hn => (hg.block k (by simp; omega) (fun e => hn e.symm)).trans (Below.heap_alloc _ _ _ hk)
  have hsz : w.heap.size ≤ w6.heap.size := by have := hg.size; simp at this; omega
  have hkp : Kept (fun k => v.ownBlock ≠ some k) w w6 := ⟨hg.os, hg.tape, hg.output, hsz, hk⟩
  exact {
    rb := h.rb.kept hkp hb
    tr := h.tr.same hsz (fun k hI2 => hk k (h.tr.lt k hI2) (fun e => hI k e hI2))
    env := h.env.kept (hk bm h.env.lt hm)
    tab := h.tab.kept hkp (fun e => (ht _ e).1 rfl) (fun e => (ht _ e).2.1 rfl) (fun e => (ht _ e).2.2 rfl)
    own := h.own, nb := h.nb, nm := h.nm, bb := h.bb, wf := h.wf, el := h.el, ci := h.ci, sz := h.sz }

/-- Blocks from here on are the call's own. -/
structure Base (base b bm : Nat) : Prop where
  b : b < base
  m : bm < base
  t : ∀ k, base ≤ k → Own k
theorem PS.base {w : World} {b : Nat} {s : ByteArray} {c : C} {bm : Nat} {vR : Value} {I : Nat → Prop} {T : List PNode} {B : List Nat} {E : List (ByteArray × Nat)} (h : PS w b s c bm vR I T B E) : Base w.heap.size b bm := by
  obtain ⟨h1, h2, h3⟩ := h.tab.lt
  exact ⟨h.rb.lt, h.env.lt, fun k hk => ⟨by omega, by omega, by omega⟩⟩

theorem LocP.push {w w6 : World} {b : Nat} {s : ByteArray} {c : C} {bm : Nat} {vR : Value} {I : Nat → Prop} {T : List PNode} {B : List Nat} {E : List (ByteArray × Nat)} {base : Nat} {v v1 : Value} {ps : List Nat} {n : Nat} {o : Obj}
    (h : PS w b s c bm vR I T B E) (hB : Base base b bm) (hL : LocP w base I B v ps) (hn1 : w6.ownsRow base 143 1 v1 (ps.length + 1) (ptrs B ps ++ [pv (bl B n)])) (hg : (w.alloc o).grownBy w6 v.ownBlock) (hat : v1.ownBlock = v.ownBlock ∨ v1.ownBlock = some (w.alloc o).heap.size) :
    PS w6 b s c bm vR I T B E ∧ LocP w6 base I B v1 (ps ++ [n]) ∧ ∀ w0 : World, w0.heap.size ≤ base → Gr b w0 w → Gr b w0 w6 := by
  have hk : ∀ k, v.ownBlock = some k → base ≤ k := fun k e => (hL.own.lt k e).1
  have hb := hB.b
  have hm := hB.m
  refine ⟨grow_ps h hg hL.out (fun e => by have := hk b e; omega) (fun e => by have := hk bm e; omega) (fun k e => hB.t k (hk k e)), ⟨?_, ?_⟩, fun w0 h0 hg0 => grow_gr hg0 h0 hk hg⟩
  · rw [ptrs_snoc]
    simpa using hn1
  · intro k e hI
    rcases hat with e2 | e2
    · exact hL.out k (e2 ▸ e) hI
    · have e3 : (w.alloc o).heap.size = k := by rw [e] at e2; simpa using e2.symm
      have := h.tr.lt k hI
      simp at e3
      omega

theorem Tree.sz_le {w : World} {I : Nat → Prop} {T : List PNode} {B : List Nat} (_h : Tree w I T B) (hT : G.WF T) (p : Nat) (hp : p < T.length) : G.sz T p ≤ 101 := by
  have hx := List.getElem?_eq_getElem hp
  rw [G.sz_eq hx]
  exact hT.le _ (List.mem_of_getElem? hx)

/-- Trees are joined. -/
theorem join_ps (w0 w : World) (b : Nat) (s : ByteArray) (c : C) (bm : Nat) (vR : Value) (I : Nat → Prop) (T : List PNode) (B : List Nat) (E : List (ByteArray × Nat)) (k code : Nat) (hk : (k = 113 ∧ code = 1) ∨ (k = 99 ∧ code = 2)) (v : Value) (ps : List Nat)
    (h : PS w b s c bm vR I T B E) (hB : Base w0.heap.size b bm) (h0 : w0.heap.size ≤ w.heap.size) (hL : LocP w w0.heap.size I B v ps) (hne : ps ≠ []) (hps : ∀ p ∈ ps, p < T.length) (hn : ps.length ≤ 100000) :
    Calls Tryz.prog 129 #[.int .i64 (code : Int), v] w fun e w' => ∃ I' B', e = .returned (pv (bl B' T.length)) ∧ PS w' b s c bm vR I' (T ++ [G.mk T k [] false ps]) B' E ∧ Ext w0 I B I' B' ∧ Below w.heap.size w w' := by
  have hk2 : k = 113 ∨ k = 99 := by omega
  by_cases h1 : ps.length = 1
  · obtain ⟨p, rfl⟩ := List.length_eq_one_iff.1 h1
    refine (join_one w B code p v (own_low hL.own (Nat.zero_le _))).mono ?_
    rintro e w' ⟨rfl, rfl⟩
    refine ⟨I, B ++ [bl B p], ?_, h.alone hk2 (hps p (by simp)), ⟨fun _ h => h, fun _ h => .inl h, _, rfl⟩, Below.refl _ _⟩
    rw [← h.tr.len, bl_new]
  · refine (join_many w T B ps code v (own_low hL.own (Nat.zero_le _)) h1 hn (fun p hp => h.tr.places h.wf p (hps p hp)) (fun p hp => h.tr.sz_le h.wf p (hps p hp))).mono ?_
    rintro e w' ⟨a, rfl, ha, hblk, hb⟩
    have hkn : kindN k = code := by rcases hk with ⟨rfl, rfl⟩ | ⟨rfl, rfl⟩ <;> rfl
    obtain ⟨I', hp', he'⟩ := (h.below hb).inner (w0 := w0) hB.b hB.m (Nat.le_trans h0 ha) (.inl ⟨hk2, hne, h1⟩) hps (by rw [hkn]; exact hblk) (own_same_at hL.own (fun j e => hb.block j (hL.own.lt j e).2))
    refine ⟨I', B ++ [a], ?_, hp', he', hb⟩
    rw [← h.tr.len, bl_new]

end Pr
end Go.Proofs.YtpgcidpghmoibaaGreatDoor

namespace Go.Proofs.YtpgcidpghmoibaaGreatDoor
namespace Pr
open Go.RowKit Go.Maps
open Rf (Kept)
open G (PNode)

/-- Where a quote's reading stands. -/
def QSt (s : ByteArray) (E : List (ByteArray × Nat)) (d : Nat) (r : G.Res) (ps : List Nat) (i : Nat) (T : List PNode) : Prop :=
  ((ps = [] ∨ G.pk s i ≠ 39) ∧ G.R s E (.quote ps) d i T r) ∨ (ps ≠ [] ∧ G.pk s i = 39 ∧ r = .ok T.length (i + 1) (T ++ [G.mk T 113 [] false ps]))

theorem QSt.none {s : ByteArray} {E : List (ByteArray × Nat)} {d : Nat} {r : G.Res} {ps : List Nat} {i : Nat} {T : List PNode} (h : G.R s E (.quote ps) d i T r) (hc : G.chr s 39 39 i = none) : r = .err 2 i := by
  cases h with
  | quoteErr _ => rfl
  | quoteEnd h1 _ => rw [hc] at h1; cases h1
  | quoteMore h1 _ _ => rw [hc] at h1; cases h1
theorem QSt.some {s : ByteArray} {E : List (ByteArray × Nat)} {d : Nat} {r : G.Res} {ps : List Nat} {i x j : Nat} {T : List PNode} (h : G.R s E (.quote ps) d i T r) (hc : G.chr s 39 39 i = some (x, j)) : QSt s E d r (ps ++ [T.length]) j (T ++ [G.mk T 115 [(x, x)] false []]) := by
  cases h with
  | quoteErr h1 => rw [hc] at h1; cases h1
  | quoteEnd h1 h2 =>
    rw [hc] at h1
    cases h1
    exact .inr ⟨by simp, h2, by simp⟩
  | quoteMore h1 h2 h3 =>
    rw [hc] at h1
    cases h1
    exact .inl ⟨.inr h2, h3⟩

def QInv (w0 : World) (b : Nat) (s : ByteArray) (c : C) (bm : Nat) (vR : Value) (I : Nat → Prop) (B : List Nat) (E : List (ByteArray × Nat)) (d : Nat) (r : G.Res) (v : Value) (wr : World) : Prop :=
  ∃ ps T1 B1 I1 i1, PS wr b s { c with i := i1 } bm vR I1 T1 B1 E ∧ LocP wr w0.heap.size I1 B1 v ps ∧ Ext w0 I B I1 B1 ∧ Gr b w0 wr ∧ (∀ p ∈ ps, p < T1.length) ∧ ps.length ≤ i1 ∧ QSt s E d r ps i1 T1

/-- A leaf was laid beside a row of trees. -/
theorem leaf_ps {w1 w4 : World} {b : Nat} {s : ByteArray} {c : C} {bm : Nat} {vR : Value} {I : Nat → Prop} {T : List PNode} {B : List Nat} {E : List (ByteArray × Nat)} {rs : List (Nat × Nat)} {o : Bool} {vr : Value} {rs' : List (Nat × Nat)} {a base : Nat} {v : Value} {ps : List Nat}
    (hP : PS w1 b s c bm vR I T B E) (hb : Below w1.heap.size w1 w4) (ha : w1.heap.size ≤ a) (hblk : w4.heap[a]? = some (.cells (leafCells vr o) 149 (0, 0))) (ho : w4.ownsRow w1.heap.size 197 2 vr rs'.length (rc rs')) (hok : SetOk rs' rs) (hbd : ∀ r ∈ rs, r.1 ≤ 1114111 ∧ r.2 ≤ 1114111) (hL : LocP w1 base I B v ps) (hps : ∀ p ∈ ps, p < T.length) :
    ∃ I4, PS w4 b s c bm vR I4 (T ++ [G.mk T 115 rs o []]) (B ++ [a]) E ∧ Ext w1 I B I4 (B ++ [a]) ∧ LocP w4 base I4 (B ++ [a]) v ps ∧ bl (B ++ [a]) T.length = a := by
  obtain ⟨I4, h4, hX⟩ := (hP.below hb).leaf (w0 := w1) hP.base.b hP.base.m ha hblk ho hok hbd
  refine ⟨I4, h4, hX, (hL.below hb).ext hX (fun p hp => by rw [hP.tr.len]; exact hps p hp) (fun k e => (hL.own.lt k e).2), ?_⟩
  rw [← hP.tr.len, bl_new]

theorem lt_snoc' (T : List PNode) (x : PNode) (ps : List Nat) (h : ∀ p ∈ ps, p < T.length) : ∀ p ∈ ps ++ [T.length], p < (T ++ [x]).length := by
  intro p hp
  rcases List.mem_append.1 hp with hp | hp
  · have := h p hp
    simp
    omega
  · simp only [List.mem_singleton] at hp
    subst hp
    simp
theorem below_made (w : World) (o : Obj) : Below w.heap.size w (w.alloc o) := (Below.refl _ w).alloc (Nat.le_refl _) o
theorem below_then {a b c : World} (h : Below a.heap.size a b) (g : Below b.heap.size b c) : Below a.heap.size a c := h.trans (g.mono h.size)

set_option maxRecDepth 100000 in
set_option maxHeartbeats 4000000 in
theorem quote_any (w : World) (b : Nat) (s : ByteArray) (c : C) (bm : Nat) (vR : Value) (I : Nat → Prop) (T : List PNode) (B : List Nat) (E : List (ByteArray × Nat)) (d : Nat) (r : G.Res) (h : PS w b s c bm vR I T B E) (hlt : c.i < s.size) (hr : G.R s E (.quote []) d (c.i + 1) T r) :
    Calls Tryz.prog 156 #[.pointer (some ⟨b, 0, none⟩)] w fun e w' => RPost w b s c bm vR I B E r e w' := by
  obtain ⟨i0, hi, hz0, hz1, hz2⟩ := info_parts infoP
  obtain ⟨c0, c1, c2, c3, c4, c5, c6, fr⟩ := h.rb.reads
  have hs := h.sz
  have hB := h.base
  go_enter Tryz.func156, Tryz.ntmps156
  go_wp2
  go_loopw [3] (fun v wr => QInv w b s c bm vR I B E d r v wr) (fun _ wr => s.size - posOf b wr)
  case atStart => exact ⟨[], T, B, I, c.i + 1, h.step (Gr.set (Kept.refl _ w) _ _) h.rb.inc hlt, LocP.nil _ _ _ _, Ext.refl _ _ _, Gr.set (Kept.refl _ w) _ _, by simp, by simp, .inl ⟨.inl rfl, hr⟩⟩
  case round =>
    obtain ⟨ps, T1, B1, I1, i1, hP, hL, hX, hG, hps, hpl, hst⟩ := hrel
    have HP : Hid (posOf b wr = i1) := hP.rb.pos
    have hi1 : i1 ≤ s.size := hP.ci
    have hszl := hG.size
    obtain ⟨pa, pc, hpe⟩ := Rf.own_len hL.own
    subst hpe
    clear c0 c1 c2 c3 c4 c5 c6 fr
    have hPk := peek_any wr b s _ _ vR hP.rb hs hi1
    have hCh : ∀ n, _ := fun n => char_any (wr.drewN n) b s _ _ vR ⟨#[39]⟩ 39 39 (.inl ⟨rfl, rfl, rfl⟩) (hP.rb.drewN n) hs hi1 (hP.tab.below ((Kept.drewN (Kept.refl (fun _ => True) wr) n).all))
    have hDr : ∀ n, Gr b wr (wr.drewN n) := fun n => Kept.drewN (Kept.refl _ wr) n
    change Calls _ _ _ _ (fun r w' => r = .returned (.int .u8 (pkV s i1)) ∧ _) at hPk
    rcases hst with ⟨hmore, hR⟩ | ⟨hne, h39, rfl⟩
    · cases hc : G.chr s 39 39 i1 with
      | none =>
        obtain rfl := QSt.none hR hc
        simp only [hc] at hCh
        clear hR hc
        by_cases hps0 : ps.length = 0
        · have hCh0 := hCh 0
          change Calls _ _ _ wr _ at hCh0
          rw [hps0]
          go_wp2_with (go_at_call 160; refine hCh0.mono ?_; rintro e w1 ⟨hg1, rfl, hR1⟩)
          go_ret
          exact ⟨hG.trans hg1, rfl, _, _, hR1⟩
        · have hne : ¬ pkV s i1 = 39 := pkV_ne (by omega) (by rcases hmore with h | h; exact absurd (by rw [h]; rfl) hps0; exact h)
          generalize pkV s i1 = p at hPk hne
          have hnb : (p != 39) = true := by simpa using hne
          have hlb : ((ps.length : Int) == 0) = false := by simpa using hps0
          go_wp2_with (first
            | (go_at_call 160; refine (hCh n).mono ?_; rintro e w2 ⟨hg2, rfl, hR2⟩)
            | (go_at_call 98; refine hPk.mono ?_; rintro e w1 ⟨rfl, n, rfl⟩))
          go_ret
          exact ⟨(hG.trans (hDr n)).trans hg2, rfl, _, _, hR2⟩
      | some q =>
        obtain ⟨x, j⟩ := q
        have hst := QSt.some hR hc
        have hbd := G.chr_bd hc
        simp only [hc] at hCh
        clear hR hc
        have HS : Hid _ := hst
        clear hst
        have hmain : ∀ (w1 : World), Gr b wr w1 → RB w1 b s { c with i := j } (.map (some bm)) vR → PS w1 b s { c with i := j } bm vR I1 T1 B1 E := fun w1 hg hR => hP.step hg hR hbd.2.1
        by_cases hps0 : ps.length = 0
        · have hCh0 := hCh 0
          change Calls _ _ _ wr _ at hCh0
          have hpn : ps = [] := by simpa using hps0
          subst hpn
          go_wp2_with (first
            | (at_builtin
               refine wpList_append_own_at _ rfl (.tmp 28) (.tmp 34) 105 rfl w.heap.size 143 i0 (.pointer none) 1 8 Tryz.underlying105 hi hz0 hz1 hz2 rfl (by decide) (.slice pa ([] : List Nat).length pc) ([] : List Nat).length (ptrs (B1 ++ [a]) []) rfl (HL4.out.2.1.own.alloc _) ⟨w4.heap.size, 0, none⟩ 1 1 [pv a] rfl rfl (cell_one_new _ _ _) (fun y hy => by simp at hy; subst hy; rfl) (by unfold maxLen; omega) (by omega) (by have := hbw4; simp; omega) ?_
               intro v1 w6 hn1 hg1 _ hat1
               have HPU : Hid _ := LocP.push (n := T1.length) HL4.out.1 hB HL4.out.2.1 (by rw [HL4.out.2.2.2]; exact hn1) hg1 hat1
               clear hn1 hg1 hat1)
            | (go_at_call 153
               refine hN4.mono ?_
               rintro e w4 ⟨a, rfl, ha4, hblk4, hb4⟩
               have hb14 := below_then (below_then (below_then hb2 (below_made w2 _)) hb3) hb4
               have hbw4 : w.heap.size ≤ w4.heap.size := Nat.le_trans (Nat.le_trans hszl HG1.out.1.size) hb14.size
               obtain ⟨I4, hP4, hX4, hL4, hbl4⟩ := leaf_ps HG1.out.2 hb14 (Nat.le_trans (below_then (below_then hb2 (below_made w2 _)) hb3).size ha4) hblk4 (own_low (own_same_at ho3 (fun k e => hb4.block k (ho3.lt k e).2)) (below_then hb2 (below_made w2 _)).size) hok3 (by simp; omega) (hL.gr HG1.out.1 hB.b) hps
               have HL4 : Hid _ := And.intro hP4 (And.intro hL4 (And.intro hX4 hbl4))
               have HBW : Hid _ := hb14
               clear hP4 hX4 hL4 hbl4 hblk4 ha4 hb4 hb14 ho3 hok3 hb3 hb2 hN4 hN3)
            | (go_at_call 161; refine hN3.mono ?_; rintro e w3 ⟨vs, rfl, ⟨vr, rs', rfl, ho3, hok3⟩, hb3⟩; have hN4 := leaf_any w3 vr false (by obtain ⟨z1, z2, z3⟩ := Rf.own_len ho3; exact ⟨z1, _, z2, z3⟩))
            | (go_at_call 162; refine (one_any w1 (x : Int)).mono ?_; rintro e w2 ⟨rfl, hb2⟩; have hN3 := of_any (w2.alloc (.cells #[.int .i32 (x : Int), .int .i32 (x : Int)] 197)) [(x, x)] (.slice (some ⟨w2.heap.size, 0, none⟩) 1 1) (own_made w2 0 197 2 1 #[.int .i32 (x : Int), .int .i32 (x : Int)] (Nat.zero_le _) rfl (by unfold maxLen; omega)) (by simp) (by simp) (by simp; omega))
            | (go_at_call 160; refine hCh0.mono ?_; rintro e w1 ⟨hg1, rfl, hR1⟩; have HG1 : Hid (Gr b wr w1 ∧ PS w1 b s { c with i := j } bm vR I1 T1 B1 E) := ⟨hg1, hmain w1 hg1 hR1⟩; clear hg1 hR1))
          have hQ : QInv w b s c bm vR I B E d r v1 w6 := by
            refine ⟨([] : List Nat) ++ [T1.length], T1 ++ [G.mk T1 115 [(x, x)] false []], B1 ++ [a], I4, j, HPU.out.1, HPU.out.2.1, hX.trans (hG.trans HG1.out.1).size HL4.out.2.2.1, HPU.out.2.2 w (Nat.le_refl _) ((hG.trans HG1.out.1).trans (Gr.below HBW.out)), lt_snoc' _ _ _ hps, ?_, HS.out⟩
            simp
            omega
          refine ⟨hQ, ?_⟩
          rw [HP.out, HPU.out.1.rb.pos]
          show s.size - j < _
          omega
        · have hne : ¬ pkV s i1 = 39 := pkV_ne (by omega) (by rcases hmore with h | h; exact absurd (by rw [h]; rfl) hps0; exact h)
          generalize pkV s i1 = p at hPk hne
          have hnb : (p != 39) = true := by simpa using hne
          have hlb : ((ps.length : Int) == 0) = false := by simpa using hps0
          go_wp2_with (first
            | (at_builtin
               refine wpList_append_own_at _ rfl (.tmp 28) (.tmp 34) 105 rfl w.heap.size 143 i0 (.pointer none) 1 8 Tryz.underlying105 hi hz0 hz1 hz2 rfl (by decide) (.slice pa ps.length pc) ps.length (ptrs (B1 ++ [a]) ps) rfl (HL4.out.2.1.own.alloc _) ⟨w4.heap.size, 0, none⟩ 1 1 [pv a] rfl rfl (cell_one_new _ _ _) (fun y hy => by simp at hy; subst hy; rfl) (by unfold maxLen; omega) (by omega) (by have := hbw4; simp; omega) ?_
               intro v1 w6 hn1 hg1 _ hat1
               have HPU : Hid _ := LocP.push (n := T1.length) HL4.out.1 hB HL4.out.2.1 (by rw [HL4.out.2.2.2]; exact hn1) hg1 hat1
               clear hn1 hg1 hat1)
            | (go_at_call 153
               refine hN4.mono ?_
               rintro e w4 ⟨a, rfl, ha4, hblk4, hb4⟩
               have hb14 := below_then (below_then (below_then hb2 (below_made w2 _)) hb3) hb4
               have hbw4 : w.heap.size ≤ w4.heap.size := Nat.le_trans (Nat.le_trans hszl HG1.out.1.size) hb14.size
               obtain ⟨I4, hP4, hX4, hL4, hbl4⟩ := leaf_ps HG1.out.2 hb14 (Nat.le_trans (below_then (below_then hb2 (below_made w2 _)) hb3).size ha4) hblk4 (own_low (own_same_at ho3 (fun k e => hb4.block k (ho3.lt k e).2)) (below_then hb2 (below_made w2 _)).size) hok3 (by simp; omega) (hL.gr HG1.out.1 hB.b) hps
               have HL4 : Hid _ := And.intro hP4 (And.intro hL4 (And.intro hX4 hbl4))
               have HBW : Hid _ := hb14
               clear hP4 hX4 hL4 hbl4 hblk4 ha4 hb4 hb14 ho3 hok3 hb3 hb2 hN4 hN3)
            | (go_at_call 161; refine hN3.mono ?_; rintro e w3 ⟨vs, rfl, ⟨vr, rs', rfl, ho3, hok3⟩, hb3⟩; have hN4 := leaf_any w3 vr false (by obtain ⟨z1, z2, z3⟩ := Rf.own_len ho3; exact ⟨z1, _, z2, z3⟩))
            | (go_at_call 162; refine (one_any w1 (x : Int)).mono ?_; rintro e w2 ⟨rfl, hb2⟩; have hN3 := of_any (w2.alloc (.cells #[.int .i32 (x : Int), .int .i32 (x : Int)] 197)) [(x, x)] (.slice (some ⟨w2.heap.size, 0, none⟩) 1 1) (own_made w2 0 197 2 1 #[.int .i32 (x : Int), .int .i32 (x : Int)] (Nat.zero_le _) rfl (by unfold maxLen; omega)) (by simp) (by simp) (by simp; omega))
            | (go_at_call 160; refine (hCh n).mono ?_; rintro e w1 ⟨hg1, rfl, hR1⟩; have HG1 : Hid (Gr b wr w1 ∧ PS w1 b s { c with i := j } bm vR I1 T1 B1 E) := ⟨(hDr n).trans hg1, hmain w1 ((hDr n).trans hg1) hR1⟩; clear hg1 hR1)
            | (go_at_call 98; refine hPk.mono ?_; rintro e wn ⟨rfl, n, rfl⟩))
          have hQ : QInv w b s c bm vR I B E d r v1 w6 := by
            refine ⟨ps ++ [T1.length], T1 ++ [G.mk T1 115 [(x, x)] false []], B1 ++ [a], I4, j, HPU.out.1, HPU.out.2.1, hX.trans (hG.trans HG1.out.1).size HL4.out.2.2.1, HPU.out.2.2 w (Nat.le_refl _) ((hG.trans HG1.out.1).trans (Gr.below HBW.out)), lt_snoc' _ _ _ hps, ?_, HS.out⟩
            simp
            omega
          refine ⟨hQ, ?_⟩
          rw [HP.out, HPU.out.1.rb.pos]
          show s.size - j < _
          omega
    · have hlen : ¬ ps.length = 0 := by simpa using hne
      rw [(pkV_eq (by omega)).2 h39] at hPk
      have hlt1 := G.lt_of_pk (s := s) (i := i1) (by omega)
      clear hCh
      go_wp2_with (first
        | (go_at_call 129; refine hJ.mono ?_; rintro e w3 ⟨I', B', rfl, hP3, hX3, hb3⟩)
        | (go_at_call 125; refine (step_any (wr.drewN n) b s _ _ vR 1 (hP.rb.drewN n) hs hlt1).mono ?_; rintro e w2 ⟨rfl, hR2, hE2⟩; have hG2 : Gr b wr w2 := (Kept.drewN (Kept.refl _ wr) n).trans hE2.kept; have hP2 := hP.step hG2 hR2 (G.skip_le s _ hlt1); have hL2 := hL.gr hG2 hB.b; have hJ := join_ps w w2 b s _ bm vR I1 T1 B1 E 113 1 (.inl ⟨rfl, rfl⟩) _ ps hP2 hB (Nat.le_trans hszl hG2.size) hL2 hne hps (by omega))
        | (go_at_call 98; refine hPk.mono ?_; rintro e w1 ⟨rfl, n, rfl⟩))
      go_ret
      exact ⟨(hG.trans hG2).trans (Gr.below hb3), I', B', rfl, hP3, hX.trans (Nat.le_refl _) hX3⟩

end Pr
end Go.Proofs.YtpgcidpghmoibaaGreatDoor

namespace Go.Proofs.YtpgcidpghmoibaaGreatDoor
namespace Pr
open Go.RowKit Go.Maps
open Rf (Kept)
open G (PNode)

/-- What a part is: a range and where it ends, or an error and its place. -/
inductive PRes where
  | ok (a z j : Nat)
  | err (e p : Nat)
def partR (s : ByteArray) (i : Nat) : PRes := match G.chr s 93 45 i with
  | none => .err 2 i
  | some (a, j) => if G.pk s j = 45 then (match G.chr s 93 45 (j + 1) with
      | none => .err 2 (j + 1)
      | some (z, k) => if z < a then .err 4 i else .ok a z k) else .ok a a j

def PartPost (w : World) (b : Nat) (s : ByteArray) (c : C) (m vR : Value) (r : PRes) (e : Ending) (w' : World) : Prop :=
  Gr b w w' ∧ match r with
    | .ok a z j => e = .returned (.tuple #[.agg #[.int .i32 (a : Int), .int .i32 (z : Int)], .bool true]) ∧ RB w' b s { c with i := j } m vR
    | .err er p => ∃ x y : Int, ∃ i' d' : Nat, e = .returned (.tuple #[.agg #[.int .i32 x, .int .i32 y], .bool false]) ∧ RB w' b s ⟨i', d', p, er⟩ m vR

/-- The result's block, written. -/
theorem res_two {W : World} {B : Nat} {t : TypeId} {x y : Value} (h : W.heap[B]? = some (.cells #[.int .i32 0, .int .i32 0] t (0, 0))) :
    (W.setCell ⟨B, 0, none⟩ x).cell? ⟨B, 0, none⟩ = some x ∧ ((W.setCell ⟨B, 0, none⟩ x).setCell ⟨B, 1, none⟩ y).cell? ⟨B, 1, none⟩ = some y :=
  ⟨Rf.cell_blk (Rf.blk_set h _ _) 0 _ rfl, Rf.cell_blk (Rf.blk_set (Rf.blk_set h _ _) _ _) 1 _ rfl⟩

theorem fin_two {w W : World} {b : Nat} {s : ByteArray} {c : C} {m vR x y : Value} (hG : Gr b w W) (hR : RB W b s c m vR) (hb : b < w.heap.size) :
    Gr b w ((W.setCell ⟨w.heap.size, 0, none⟩ x).setCell ⟨w.heap.size, 1, none⟩ y) ∧ RB ((W.setCell ⟨w.heap.size, 0, none⟩ x).setCell ⟨w.heap.size, 1, none⟩ y) b s c m vR := by
  refine ⟨Kept.setNew (Kept.setNew hG (q := ⟨w.heap.size, 0, none⟩) (Nat.le_refl _) _) (q := ⟨w.heap.size, 1, none⟩) (Nat.le_refl _) _, ?_⟩
  show _ = _
  rw [Rf.blk_ne _ (by omega), Rf.blk_ne _ (by omega)]
  exact hR
theorem blk_res {w W : World} {b : Nat} {o : Obj} (hg : Gr b (w.alloc o) W) (hb : b < w.heap.size) : W.heap[w.heap.size]? = some o :=
  (hg.block w.heap.size (by simp) (by omega)).trans (heap_alloc_new w o)

theorem cells_res {W : World} {B : Nat} {t : TypeId} (h : W.heap[B]? = some (.cells #[.int .i32 0, .int .i32 0] t (0, 0))) : (∀ i, W.frozen? ⟨B, i, none⟩ = false) ∧ W.cell? ⟨B, 0, none⟩ = some (.int .i32 0) ∧ W.cell? ⟨B, 1, none⟩ = some (.int .i32 0) :=
  ⟨Rf.free_blk h, Rf.cell_blk h 0 _ rfl, Rf.cell_blk h 1 _ rfl⟩

set_option maxRecDepth 100000 in
set_option maxHeartbeats 2000000 in
theorem part_any (w : World) (b : Nat) (s : ByteArray) (c : C) (m vR : Value) (hR : RB w b s c m vR) (hs : s.size ≤ 2000) (hi : c.i ≤ s.size) (hT : Tabs w) (hO : Own b) :
    Calls Tryz.prog 163 #[.pointer (some ⟨b, 0, none⟩)] w fun e w' => PartPost w b s c m vR (partR s c.i) e w' := by
  have hb0 := hR.lt
  have hR0 := hR.below (below_made w (.cells #[.int .i32 0, .int .i32 0] 197))
  have hT0 := hT.below (below_made w (.cells #[.int .i32 0, .int .i32 0] 197))
  have hbk := heap_alloc_new w (.cells #[.int .i32 0, .int .i32 0] 197)
  have hG0 : Gr b w (w.alloc (.cells #[.int .i32 0, .int .i32 0] 197)) := Gr.below (below_made w _)
  obtain ⟨c0, c1, c2, c3, c4, c5, c6, fr⟩ := hR0.reads
  have hC := char_any _ b s c m vR ⟨#[93, 45]⟩ 93 45 (.inr ⟨rfl, rfl, rfl⟩) hR0 hs hi hT0
  have HG0 : Hid _ := And.intro hG0 hbk
  clear hG0 hbk hR0 hT0
  unfold partR
  cases hc : G.chr s 93 45 c.i with
  | none =>
    rw [hc] at hC
    simp only
    clear hc
    go_enter Tryz.func163, Tryz.ntmps163
    go_wp2_with (first
      | (go_at_call 162; refine (one_any w1 0).mono ?_; rintro e w2 ⟨rfl, hb2⟩; have HGW : Hid _ := Kept.trans hg1 (Gr.below hb2); obtain ⟨f0, g0, g1⟩ := cells_res (W := w2) (blk_res HGW.out hb0))
      | (go_at_call 160; refine hC.mono ?_; rintro e w1 ⟨hg1, rfl, hR1⟩))
    obtain ⟨s0, s1⟩ := res_two (x := .int .i32 0) (y := .int .i32 0) (blk_res HGW.out hb0)
    refine bodyPost_ret (by simp [results, Tryz.results163, go_sem, s0, s1]; try rfl) rfl ?_
    obtain ⟨q1, q2⟩ := fin_two (x := .int .i32 0) (y := .int .i32 0) (HG0.out.1.trans HGW.out) (hR1.below hb2) hb0
    exact ⟨q1, 0, 0, _, _, rfl, q2⟩
  | some q =>
    obtain ⟨a, j⟩ := q
    have hbd := G.chr_bd hc
    rw [hc] at hC
    simp only
    clear hc
    have hab : a ≤ 1114111 := hbd.2.2
    by_cases h45 : G.pk s j = 45
    · rw [if_pos h45]
      have hlt := G.lt_of_pk (s := s) (i := j) (by omega)
      have hpv : pkV s j = 45 := (pkV_eq (by omega)).2 h45
      have hPk : ∀ w1, RB w1 b s { c with i := j } m vR → _ := fun w1 hR1 => peek_any w1 b s _ m vR hR1 hs hbd.2.1
      have hC2 : ∀ w2, RB w2 b s { c with i := j + 1 } m vR → Tabs w2 → _ := fun w2 hR2 hT2 => char_any w2 b s _ m vR ⟨#[93, 45]⟩ 93 45 (.inr ⟨rfl, rfl, rfl⟩) hR2 hs hlt hT2
      simp only [hpv] at hPk
      have HT0 : Hid (Tabs (w.alloc (.cells #[.int .i32 0, .int .i32 0] 197))) := hT.below (below_made w _)
      clear h45 hpv
      cases hc2 : G.chr s 93 45 (j + 1) with
      | none =>
        simp only [hc2] at hC2 ⊢
        clear hc2
        go_enter Tryz.func163, Tryz.ntmps163
        go_wp2_with (first
          | (go_at_call 160; refine hC3.mono ?_; rintro e w3 ⟨hg3, rfl, hR3⟩; have HGW : Hid _ := Kept.trans (Gr.set (hg1.trans (Kept.drewN (Kept.refl _ w1) n)) 1 (.int .i64 ((j : Int) + 1))) hg3; obtain ⟨f0, g0, g1⟩ := cells_res (W := w3) (blk_res HGW.out hb0))
          | (go_at_call 98; refine (hPk w1 hR1).mono ?_; rintro e w2 ⟨rfl, n, rfl⟩; have hC3 := hC2 ((w1.drewN n).setCell ⟨b, 1, none⟩ (.int .i64 ((j : Int) + 1))) (hR1.drewN n).inc (HT0.out.gr (Gr.set (hg1.trans (Kept.drewN (Kept.refl _ w1) n)) 1 (.int .i64 ((j : Int) + 1))) hO))
          | (go_at_call 160; refine hC.mono ?_; rintro e w1 ⟨hg1, rfl, hR1⟩; clear c0 c1 c2 c3 c4 c5 c6 fr; obtain ⟨c0, c1, c2, c3, c4, c5, c6, fr⟩ := hR1.reads))
        obtain ⟨s0, s1⟩ := res_two (x := .int .i32 (a : Int)) (y := .int .i32 0) (blk_res HGW.out hb0)
        refine bodyPost_ret (by simp [results, Tryz.results163, go_sem, s0, s1]; try rfl) rfl ?_
        obtain ⟨q1, q2⟩ := fin_two (x := .int .i32 (a : Int)) (y := .int .i32 0) (HG0.out.1.trans HGW.out) hR3 hb0
        exact ⟨q1, (a : Int), 0, _, _, rfl, q2⟩
      | some q2 =>
        obtain ⟨z, k⟩ := q2
        have hbd2 := G.chr_bd hc2
        simp only [hc2] at hC2 ⊢
        clear hc2
        have hzb : z ≤ 1114111 := hbd2.2.2
        by_cases hza : z < a
        · rw [if_pos hza]
          have hza' : (z : Int) < (a : Int) := by omega
          go_enter Tryz.func163, Tryz.ntmps163
          go_wp2_with (first
            | (go_at_call 127; refine (fail_any w3 b s _ m vR c.i 4 hR3).mono ?_; rintro e w4 ⟨rfl, hR4, hE4⟩; have HGW : Hid _ := Kept.trans (Kept.trans (Gr.set (hg1.trans (Kept.drewN (Kept.refl _ w1) n)) 1 (.int .i64 ((j : Int) + 1))) hg3) hE4.kept; obtain ⟨f0, g0, g1⟩ := cells_res (W := w4) (blk_res HGW.out hb0))
            | (go_at_call 160; refine hC3.mono ?_; rintro e w3 ⟨hg3, rfl, hR3⟩)
            | (go_at_call 98; refine (hPk w1 hR1).mono ?_; rintro e w2 ⟨rfl, n, rfl⟩; have hC3 := hC2 ((w1.drewN n).setCell ⟨b, 1, none⟩ (.int .i64 ((j : Int) + 1))) (hR1.drewN n).inc (HT0.out.gr (Gr.set (hg1.trans (Kept.drewN (Kept.refl _ w1) n)) 1 (.int .i64 ((j : Int) + 1))) hO))
            | (go_at_call 160; refine hC.mono ?_; rintro e w1 ⟨hg1, rfl, hR1⟩; clear c0 c1 c2 c3 c4 c5 c6 fr; obtain ⟨c0, c1, c2, c3, c4, c5, c6, fr⟩ := hR1.reads))
          obtain ⟨s0, s1⟩ := res_two (x := .int .i32 (a : Int)) (y := .int .i32 (z : Int)) (blk_res HGW.out hb0)
          refine bodyPost_ret (by simp [results, Tryz.results163, go_sem, s0, s1]; try rfl) rfl ?_
          obtain ⟨q1, q2⟩ := fin_two (x := .int .i32 (a : Int)) (y := .int .i32 (z : Int)) (HG0.out.1.trans HGW.out) hR4 hb0
          exact ⟨q1, (a : Int), (z : Int), _, _, rfl, q2⟩
        · rw [if_neg hza]
          have hza' : ¬ (z : Int) < (a : Int) := by omega
          go_enter Tryz.func163, Tryz.ntmps163
          go_wp2_with (first
            | (go_at_call 160; refine hC3.mono ?_; rintro e w3 ⟨hg3, rfl, hR3⟩; have HGW : Hid _ := Kept.trans (Gr.set (hg1.trans (Kept.drewN (Kept.refl _ w1) n)) 1 (.int .i64 ((j : Int) + 1))) hg3; obtain ⟨f0, g0, g1⟩ := cells_res (W := w3) (blk_res HGW.out hb0))
            | (go_at_call 98; refine (hPk w1 hR1).mono ?_; rintro e w2 ⟨rfl, n, rfl⟩; have hC3 := hC2 ((w1.drewN n).setCell ⟨b, 1, none⟩ (.int .i64 ((j : Int) + 1))) (hR1.drewN n).inc (HT0.out.gr (Gr.set (hg1.trans (Kept.drewN (Kept.refl _ w1) n)) 1 (.int .i64 ((j : Int) + 1))) hO))
            | (go_at_call 160; refine hC.mono ?_; rintro e w1 ⟨hg1, rfl, hR1⟩; clear c0 c1 c2 c3 c4 c5 c6 fr; obtain ⟨c0, c1, c2, c3, c4, c5, c6, fr⟩ := hR1.reads))
          obtain ⟨s0, s1⟩ := res_two (x := .int .i32 (a : Int)) (y := .int .i32 (z : Int)) (blk_res HGW.out hb0)
          refine bodyPost_ret (by simp [results, Tryz.results163, go_sem, s0, s1]; try rfl) rfl ?_
          obtain ⟨q1, q2⟩ := fin_two (x := .int .i32 (a : Int)) (y := .int .i32 (z : Int)) (HG0.out.1.trans HGW.out) hR3 hb0
          exact ⟨q1, rfl, q2⟩
    · rw [if_neg h45]
      have hne : ¬ pkV s j = 45 := pkV_ne (by omega) h45
      have hPk : ∀ w1, RB w1 b s { c with i := j } m vR → _ := fun w1 hR1 => peek_any w1 b s _ m vR hR1 hs hbd.2.1
      simp only at hPk
      generalize pkV s j = p at hPk hne
      have hnb : (p != 45) = true := by simpa using hne
      go_enter Tryz.func163, Tryz.ntmps163
      go_wp2_with (first
        | (go_at_call 162; refine (one_any (w1.drewN n) (a : Int)).mono ?_; rintro e w2 ⟨rfl, hb2⟩; have HGW : Hid _ := Kept.trans (hg1.trans (Kept.drewN (Kept.refl _ w1) n)) (Gr.below hb2); obtain ⟨f0, g0, g1⟩ := cells_res (W := w2) (blk_res HGW.out hb0))
        | (go_at_call 98; refine (hPk w1 hR1).mono ?_; rintro e w2 ⟨rfl, n, rfl⟩)
        | (go_at_call 160; refine hC.mono ?_; rintro e w1 ⟨hg1, rfl, hR1⟩))
      obtain ⟨s0, s1⟩ := res_two (x := .int .i32 (a : Int)) (y := .int .i32 (a : Int)) (blk_res HGW.out hb0)
      refine bodyPost_ret (by simp [results, Tryz.results163, go_sem, s0, s1]; try rfl) rfl ?_
      obtain ⟨q1, q2⟩ := fin_two (x := .int .i32 (a : Int)) (y := .int .i32 (a : Int)) (HG0.out.1.trans HGW.out) ((hR1.drewN n).below hb2) hb0
      exact ⟨q1, rfl, q2⟩

end Pr
end Go.Proofs.YtpgcidpghmoibaaGreatDoor
