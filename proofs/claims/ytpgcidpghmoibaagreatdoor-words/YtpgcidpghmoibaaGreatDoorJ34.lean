/-
  THE PROGRAM's MACHINE: the walk of add: the places of every node, behind others. Conditions: the table of nodes is well made; there are at most 100 places.
  THE PROGRAM's MACHINE: the walk of addRule: the places of a rule behind those of the others. Conditions: the table of nodes is well made; there are at most 100 places.
  THE PROGRAM's MACHINE: the walk of New: the places of all rules. Conditions: the table of nodes is well made; there are at most 100 places.
-/
import Derived.Test.YtpgcidpghmoibaaGreatDoorJ33
import Derived.Test.YtpgcidpghmoibaaGreatDoorJ05
import Derived.Deep.Cut
import Derived.Deep.CutRange
namespace Go.Proofs.YtpgcidpghmoibaaGreatDoor
namespace Pr
open Go.RowKit
open Rf (Kept Lies)
open G (PNode)

theorem parts_len {T : List PNode} (hT : G.WF T) : ∀ ps : List Nat, (∀ p ∈ ps, p < T.length) → ps.length ≤ (ps.flatMap (G.lv T)).length
  | [], _ => Nat.zero_le _
  | p :: ps, h => by
    have h1 := parts_len hT ps (fun q hq => h q (by simp [hq]))
    have h2 : 1 ≤ (G.lv T p).length := G.pl_pos hT p (h p (by simp))
    simp only [List.flatMap_cons, List.length_append, List.length_cons]
    omega

theorem lone_iff' {x : PNode} : G.lone x = true ↔ (x.kind = 113 ∨ x.kind = 99) ∧ x.parts.length = 1 := by
  unfold G.lone
  rw [Bool.and_eq_true, Bool.or_eq_true, decide_eq_true_iff, decide_eq_true_iff, decide_eq_true_iff]

/-- What add leaves, given what it called leaves. -/
theorem ad_done {w w1 : World} {I : Nat → Prop} {b : Nat} {v v1 : Value} {P P1 : List Pl} {V V1 : List Value} {f : PB} (hM : MaAt w I b v P V f) (hI : ∀ k, I k → k < w.heap.size) (hM1 : MaAt w1 I b v1 P1 V1 f) (hv : Mv b (w.alloc (.cells #[.int .u64 0, .int .u64 0, .int .u64 0, .int .u64 0, .bool false] 184)) v w1 v1) (x : En) :
    EnAt w1 w.heap.size En.zero ∧ EnAt (setEn w1 w.heap.size x) w.heap.size x ∧ MaAt (setEn w1 w.heap.size x) I b v1 P1 V1 f ∧ Mv b w v (setEn w1 w.heap.size x) v1 := by
  have hb0 : Below w.heap.size w (w.alloc (.cells #[.int .u64 0, .int .u64 0, .int .u64 0, .int .u64 0, .bool false] 184)) := (Below.refl _ w).alloc (Nat.le_refl _) _
  have hvl : ∀ j, v.ownBlock = some j → j < w.heap.size := fun j e => (hM.row.lt j e).2
  have hbl := lt_of_block hM.blk
  have e4 : EnAt w1 w.heap.size En.zero := hv.blk (heap_alloc_new w _) (by omega) (fun e => by have := hvl _ e; omega)
  refine ⟨e4, e4.setEn x, hM1.beside (k := w.heap.size) (by omega) (fun e => ?_) (fun e => by have := hI _ e; omega) (fun j hj => setEn_ne x hj), ((Mv.of_below hb0).trans hv).setEn (Nat.le_refl _) x⟩
  rcases hv.lies _ e with h | h
  · have := hvl _ h; omega
  · simp at h; omega

set_option maxRecDepth 100000 in
set_option maxHeartbeats 2000000 in
theorem add_set (I : Nat → Prop) (b : Nat) (T : List PNode) (B : List Nat) (hT : G.WF T) (n : Nat) (x : PNode) (hx : T[n]? = some x) (hl : ¬ G.lone x = true) (hk : x.kind = 115) : AddAt I b T B n := by
  intro w v P V f hM hTr hsz
  have hN := hTr.node n x hx
  unfold NodeAt at hN
  rw [if_neg hl, if_pos hk] at hN
  obtain ⟨ha, u, rs, hblk, hrow, hok, hui⟩ := hN
  have hlv : G.lv T n = [x] := by rw [G.lv_step hT hx, if_pos hk]
  rw [hlv] at hsz
  simp only [List.length_singleton] at hsz
  have hE : adN T n P = (P ++ [⟨x, 0, false, ⟨0, 0⟩⟩], ⟨PB.zero.with P.length, PB.zero.with P.length, false⟩) := by
    rw [adN_eq hT hx, if_neg hl, if_pos hk]
  rw [hE]
  obtain ⟨ua, uc, hue⟩ := Rf.own_len hrow
  subst hue
  have hb0 : Below w.heap.size w (w.alloc (.cells #[.int .u64 0, .int .u64 0, .int .u64 0, .int .u64 0, .bool false] 184)) := (Below.refl _ w).alloc (Nat.le_refl _) _
  have hblk1 : (w.alloc (.cells #[.int .u64 0, .int .u64 0, .int .u64 0, .int .u64 0, .bool false] 184)).heap[bl B n]? = _ := (hb0.block _ (lt_of_block hblk)).trans hblk
  have hA := addplace_any _ I b v P V f (hM.below hTr.lt hb0) (fun k hk => by have := hTr.lt k hk; simp; omega) (by omega) x ua rs.length uc rs (Rf.own_same hrow (fun k e => hb0.block k (hrow.lt k e).2)) hok hui
  generalize PB.zero.with P.length = only at *
  have c0 := Rf.cell_blk hblk1 0 (.int .i64 0) rfl
  have c1 := Rf.cell_blk hblk1 1 (.slice ua rs.length uc) rfl
  have c2 := Rf.cell_blk hblk1 2 (.bool x.other) rfl
  generalize bl B n = a at *
  clear hblk hblk1 hE hok hui hrow
  go_enter Tryz.func104, Tryz.ntmps104
  go_wp2_with (go_at_call 130
               refine hA.mono ?_
               rintro e w1 ⟨rfl, v1, hM1, hv1⟩
               obtain ⟨e4, d1, d2, d3⟩ := ad_done hM hTr.lt hM1 hv1 ⟨only, only, false⟩
               have e4 := e4.reads
               unfold En.zero PB.zero at e4
               obtain ⟨z0, z1, z2, z3, z4, zf⟩ := e4)
  change bodyPost _ _ _ _ _ (setEn w1 w.heap.size ⟨only, only, false⟩)
  generalize setEn w1 w.heap.size ⟨only, only, false⟩ = w6 at *
  obtain ⟨R0, R1, R2, R3, R4, _⟩ := d1.reads
  refine bodyPost_ret (by simp [results, Tryz.results104, go_sem, R0, R1, R2, R3, R4]; try rfl) rfl ?_
  exact ⟨rfl, v1, _, d2, d3⟩

set_option maxRecDepth 100000 in
set_option maxHeartbeats 2000000 in
theorem add_seq (I : Nat → Prop) (b : Nat) (T : List PNode) (B : List Nat) (hT : G.WF T) (n : Nat) (x : PNode) (hx : T[n]? = some x) (hl : ¬ G.lone x = true) (hk : x.kind = 113) (hIH : ∀ p ∈ x.parts, AddAt I b T B p) : AddAt I b T B n := by
  intro w v P V f hM hTr hsz
  have hN := hTr.node n x hx
  unfold NodeAt at hN
  have hk115 : ¬ x.kind = 115 := by omega
  have hnl : n < T.length := (List.getElem?_eq_some_iff.1 hx).1
  have hps : ∀ p ∈ x.parts, p < T.length := fun p hp => by have := (hT n x hx).parts p hp; omega
  rw [if_neg hl, if_neg hk115] at hN
  obtain ⟨ha, u, hblk, hrow, hui⟩ := hN
  rw [G.lv_step hT hx, if_neg hk115] at hsz
  have hE : adN T n P = foldS T x.parts (P, ⟨PB.zero, PB.zero, true⟩) := by
    rw [adN_eq hT hx, if_neg hl, if_neg hk115]
    rw [if_pos hk]
  rw [hE]
  have hpl := parts_len hT x.parts hps
  have hkn : kindN x.kind = 1 := by rw [hk]; rfl
  rw [hkn] at hblk
  have hb0 : Below w.heap.size w (w.alloc (.cells #[.int .u64 0, .int .u64 0, .int .u64 0, .int .u64 0, .bool false] 184)) := (Below.refl _ w).alloc (Nat.le_refl _) _
  have hblk1 : (w.alloc (.cells #[.int .u64 0, .int .u64 0, .int .u64 0, .int .u64 0, .bool false] 184)).heap[bl B n]? = _ := (hb0.block _ (lt_of_block hblk)).trans hblk
  have hA := addseq_any I b T B x.parts hIH hps hT _ v P V f u (hM.below hTr.lt hb0) (hTr.below hb0) ⟨Rf.own_same hrow (fun k e => hb0.block k (hrow.lt k e).2), hui⟩ (by omega) hsz
  unfold APost at hA
  obtain ⟨r, hr⟩ : ∃ r, foldS T x.parts (P, ⟨PB.zero, PB.zero, true⟩) = r := ⟨_, rfl⟩
  rw [hr] at hA ⊢
  obtain ⟨RP, rf, rl, re⟩ := r
  simp only at hA
  obtain ⟨ua, uc, hue⟩ := Rf.own_len hrow
  subst hue
  have c0 := Rf.cell_blk hblk1 0 (.int .i64 1) rfl
  have c3 := Rf.cell_blk hblk1 3 (.slice ua x.parts.length uc) rfl
  generalize bl B n = a at *
  clear hblk hblk1 hE hr hui hrow hIH
  go_enter Tryz.func104, Tryz.ntmps104
  go_wp2_with (go_at_call 131
               refine hA.mono ?_
               rintro e w1 ⟨rfl, v1, V1, hM1, hv1⟩
               obtain ⟨e4, d1, d2, d3⟩ := ad_done hM hTr.lt hM1 hv1 ⟨rf, rl, re⟩
               have e4 := e4.reads
               unfold En.zero PB.zero at e4
               obtain ⟨z0, z1, z2, z3, z4, zf⟩ := e4)
  change bodyPost _ _ _ _ _ (setEn w1 w.heap.size ⟨rf, rl, re⟩)
  generalize setEn w1 w.heap.size ⟨rf, rl, re⟩ = w6 at *
  obtain ⟨R0, R1, R2, R3, R4, _⟩ := d1.reads
  refine bodyPost_ret (by simp [results, Tryz.results104, go_sem, R0, R1, R2, R3, R4]; try rfl) rfl ?_
  exact ⟨rfl, v1, V1, d2, d3⟩

set_option maxRecDepth 100000 in
set_option maxHeartbeats 2000000 in
theorem add_or (I : Nat → Prop) (b : Nat) (T : List PNode) (B : List Nat) (hT : G.WF T) (n : Nat) (x : PNode) (hx : T[n]? = some x) (hl : ¬ G.lone x = true) (hk : x.kind = 99) (hIH : ∀ p ∈ x.parts, AddAt I b T B p) : AddAt I b T B n := by
  intro w v P V f hM hTr hsz
  have hN := hTr.node n x hx
  unfold NodeAt at hN
  have hk115 : ¬ x.kind = 115 := by omega
  have hnl : n < T.length := (List.getElem?_eq_some_iff.1 hx).1
  have hps : ∀ p ∈ x.parts, p < T.length := fun p hp => by have := (hT n x hx).parts p hp; omega
  rw [if_neg hl, if_neg hk115] at hN
  obtain ⟨ha, u, hblk, hrow, hui⟩ := hN
  rw [G.lv_step hT hx, if_neg hk115] at hsz
  have hE : adN T n P = foldO T x.parts (P, ⟨PB.zero, PB.zero, false⟩) := by
    rw [adN_eq hT hx, if_neg hl, if_neg hk115]
    rw [if_neg (by omega), if_pos hk]
  rw [hE]
  have hpl := parts_len hT x.parts hps
  have hkn : kindN x.kind = 2 := by rw [hk]; rfl
  rw [hkn] at hblk
  have hb0 : Below w.heap.size w (w.alloc (.cells #[.int .u64 0, .int .u64 0, .int .u64 0, .int .u64 0, .bool false] 184)) := (Below.refl _ w).alloc (Nat.le_refl _) _
  have hblk1 : (w.alloc (.cells #[.int .u64 0, .int .u64 0, .int .u64 0, .int .u64 0, .bool false] 184)).heap[bl B n]? = _ := (hb0.block _ (lt_of_block hblk)).trans hblk
  have hA := addor_any I b T B x.parts hIH hps hT _ v P V f u (hM.below hTr.lt hb0) (hTr.below hb0) ⟨Rf.own_same hrow (fun k e => hb0.block k (hrow.lt k e).2), hui⟩ (by omega) hsz
  unfold APost at hA
  obtain ⟨r, hr⟩ : ∃ r, foldO T x.parts (P, ⟨PB.zero, PB.zero, false⟩) = r := ⟨_, rfl⟩
  rw [hr] at hA ⊢
  obtain ⟨RP, rf, rl, re⟩ := r
  simp only at hA
  obtain ⟨ua, uc, hue⟩ := Rf.own_len hrow
  subst hue
  have c0 := Rf.cell_blk hblk1 0 (.int .i64 2) rfl
  have c3 := Rf.cell_blk hblk1 3 (.slice ua x.parts.length uc) rfl
  generalize bl B n = a at *
  clear hblk hblk1 hE hr hui hrow hIH
  go_enter Tryz.func104, Tryz.ntmps104
  go_wp2_with (go_at_call 132
               refine hA.mono ?_
               rintro e w1 ⟨rfl, v1, V1, hM1, hv1⟩
               obtain ⟨e4, d1, d2, d3⟩ := ad_done hM hTr.lt hM1 hv1 ⟨rf, rl, re⟩
               have e4 := e4.reads
               unfold En.zero PB.zero at e4
               obtain ⟨z0, z1, z2, z3, z4, zf⟩ := e4)
  change bodyPost _ _ _ _ _ (setEn w1 w.heap.size ⟨rf, rl, re⟩)
  generalize setEn w1 w.heap.size ⟨rf, rl, re⟩ = w6 at *
  obtain ⟨R0, R1, R2, R3, R4, _⟩ := d1.reads
  refine bodyPost_ret (by simp [results, Tryz.results104, go_sem, R0, R1, R2, R3, R4]; try rfl) rfl ?_
  exact ⟨rfl, v1, V1, d2, d3⟩

set_option maxRecDepth 100000 in
set_option maxHeartbeats 4000000 in
theorem add_rep (I : Nat → Prop) (b : Nat) (T : List PNode) (B : List Nat) (hT : G.WF T) (n : Nat) (x : PNode) (hx : T[n]? = some x) (hl : ¬ G.lone x = true) (hk : x.kind = 42 ∨ x.kind = 43 ∨ x.kind = 63) (p : Nat) (hp : x.parts = [p]) (hIH : AddAt I b T B p) : AddAt I b T B n := by
  intro w v P V f hM hTr hsz
  have hN := hTr.node n x hx
  unfold NodeAt at hN
  have hk115 : ¬ x.kind = 115 := by omega
  have hnl : n < T.length := (List.getElem?_eq_some_iff.1 hx).1
  have hps : p < T.length := by have := (hT n x hx).parts p (by rw [hp]; simp); omega
  rw [if_neg hl, if_neg hk115] at hN
  obtain ⟨ha, u, hblk, hrow, hui⟩ := hN
  rw [G.lv_step hT hx, if_neg hk115, hp] at hsz
  have hsz' : P.length + (G.lv T p).length ≤ 100 := by simpa using hsz
  have hE : adN T n P = repStep x.kind (adN T p P) := by
    rw [adN_eq hT hx, if_neg hl, if_neg hk115, if_neg (by omega), if_neg (by omega), hp]
    rfl
  rw [hE]
  have hb0 : Below w.heap.size w (w.alloc (.cells #[.int .u64 0, .int .u64 0, .int .u64 0, .int .u64 0, .bool false] 184)) := (Below.refl _ w).alloc (Nat.le_refl _) _
  have hblk1 : (w.alloc (.cells #[.int .u64 0, .int .u64 0, .int .u64 0, .int .u64 0, .bool false] 184)).heap[bl B n]? = _ := (hb0.block _ (lt_of_block hblk)).trans hblk
  have hA : ∀ w2 : World, w2.heap = (w.alloc (.cells #[.int .u64 0, .int .u64 0, .int .u64 0, .int .u64 0, .bool false] 184)).heap → _ := fun w2 h2 => addrep_any I b T B p x.kind hIH hps hT hk w2 v P V f ((hM.below hTr.lt hb0).same (fun k _ => by rw [h2])) ((hTr.below hb0).same (by rw [h2]; exact Nat.le_refl _) (fun k _ => by rw [h2])) hsz'
  unfold APost at hA
  obtain ⟨r, hr⟩ : ∃ r, repStep x.kind (adN T p P) = r := ⟨_, rfl⟩
  rw [hr]
  simp only [hr] at hA
  obtain ⟨RP, rf, rl, re⟩ := r
  simp only at hA
  rw [hp] at hrow
  have hrow1 := Rf.own_same (w' := (w.alloc (.cells #[.int .u64 0, .int .u64 0, .int .u64 0, .int .u64 0, .bool false] 184))) hrow (fun k e => hb0.block k (hrow.lt k e).2)
  obtain ⟨g, cap, hv, _, _⟩ := hrow1.form (by simp)
  subst hv
  have d0 : (w.alloc (.cells #[.int .u64 0, .int .u64 0, .int .u64 0, .int .u64 0, .bool false] 184)).cell? ⟨g, 0, none⟩ = some (.pointer (some ⟨bl B p, 0, none⟩)) := own_cell' hrow1 0 (by simp [ptrs, pv])
  have c0 := Rf.cell_blk hblk1 0 (.int .i64 (kindN x.kind : Int)) rfl
  have c3 := Rf.cell_blk hblk1 3 (.slice (some ⟨g, 0, none⟩) 1 cap) rfl
  have hkn : ((kindN x.kind : Int) == 0) = false ∧ ((kindN x.kind : Int) == 1) = false ∧ ((kindN x.kind : Int) == 2) = false := by
    rcases hk with h | h | h <;> rw [h] <;> exact ⟨rfl, rfl, rfl⟩
  obtain ⟨hk0, hk1, hk2⟩ := hkn
  generalize kindN x.kind = kk at *
  generalize bl B n = a at *
  generalize bl B p = ap at *
  clear hblk hblk1 hE hr hui hrow hIH hrow1
  go_enter Tryz.func104, Tryz.ntmps104
  go_wp2_with (fail)
  go_region_with (go_at_call 133; refine (hA (w.alloc (.cells #[.int .u64 0, .int .u64 0, .int .u64 0, .int .u64 0, .bool false] 184)).drew rfl).mono ?_; rintro e w1 ⟨rfl, v1, V1, hM1, hv1⟩; obtain ⟨e4, d1, d2, d3⟩ := ad_done hM hTr.lt hM1 (Mv.trans (Mv.of_below ((Below.refl _ _).drew)) hv1) ⟨rf, rl, re⟩; have e4 := e4.reads; unfold En.zero PB.zero at e4; obtain ⟨z0, z1, z2, z3, z4, zf⟩ := e4)
  all_goals
    go_wp2
    change bodyPost _ _ _ _ _ (setEn w1 w.heap.size ⟨rf, rl, re⟩)
    generalize setEn w1 w.heap.size ⟨rf, rl, re⟩ = w6 at *
    obtain ⟨R0, R1, R2, R3, R4, _⟩ := d1.reads
    refine bodyPost_ret (by simp [results, Tryz.results104, go_sem, R0, R1, R2, R3, R4]; try rfl) rfl ?_
    exact ⟨rfl, v1, V1, d2, d3⟩

/-- Every node. -/
theorem add_any (I : Nat → Prop) (b : Nat) (T : List PNode) (B : List Nat) (hT : G.WF T) : ∀ n, n < T.length → AddAt I b T B n := by
  intro n
  induction n using Nat.strongRecOn with
  | ind n ih =>
    intro hn
    have hx : T[n]? = some (T[n]'hn) := List.getElem?_eq_getElem hn
    generalize T[n]'hn = x at hx
    have hps := (hT n x hx).parts
    have hIH : ∀ p ∈ x.parts, AddAt I b T B p := fun p hp => ih p (hps p hp) (by have := hps p hp; omega)
    by_cases hl : G.lone x = true
    · intro w v P V f hM hTr hsz
      obtain ⟨p, hp⟩ := G.lone_head hl
      have hN := hTr.node n x hx
      unfold NodeAt at hN
      rw [if_pos hl, hp] at hN
      have hk : x.kind ≠ 115 := by
        have := (lone_iff'.1 hl).1
        omega
      rw [G.lv_step hT hx, if_neg hk, hp] at hsz
      have hE : adN T n P = adN T p P := by
        rw [adN_eq hT hx, if_pos hl, hp]
        rfl
      rw [hN, hE]
      exact hIH p (by rw [hp]; simp) w v P V f hM hTr (by simpa using hsz)
    · rcases (hT n x hx).kind with ⟨k, _⟩ | ⟨k, _⟩ | ⟨k, h1⟩
      · exact add_set I b T B hT n x hx hl k
      · rcases k with k | k
        · exact add_seq I b T B hT n x hx hl k hIH
        · exact add_or I b T B hT n x hx hl k hIH
      · obtain ⟨p, hp⟩ := List.length_eq_one_iff.1 h1
        exact add_rep I b T B hT n x hx hl k p hp (hIH p (by rw [hp]; simp))

end Pr
end Go.Proofs.YtpgcidpghmoibaaGreatDoor

namespace Go.Proofs.YtpgcidpghmoibaaGreatDoor
namespace Pr
open Go.RowKit
open Rf (Kept Lies)
open G (PNode)

/-- Places from k0 up to k are a rule's. -/
def Pl.mark (p : Pl) (rule : Nat) (b : Bool) : Pl := ⟨p.x, rule, b, p.be⟩
def mrk (k0 k rule : Nat) (l : PB) (P : List Pl) : List Pl := P.mapIdx fun i p => if decide (k0 ≤ i) && decide (i < k) then p.mark rule (l.has i) else p
theorem mrk_len (k0 k rule : Nat) (l : PB) (P : List Pl) : (mrk k0 k rule l P).length = P.length := by simp [mrk]
theorem mrk_none (k0 rule : Nat) (l : PB) (P : List Pl) : mrk k0 k0 rule l P = P := by
  apply List.ext_getElem?
  intro i
  have : (decide (k0 ≤ i) && decide (i < k0)) = false := by
    rw [Bool.and_eq_false_iff, decide_eq_false_iff_not, decide_eq_false_iff_not]
    omega
  simp only [mrk, List.getElem?_mapIdx, this, Bool.false_eq_true, if_false]
  simp
theorem mrk_get (k0 k rule : Nat) (l : PB) (P : List Pl) (p : Pl) (h : P[k]? = some p) : (mrk k0 k rule l P)[k]? = some p := by
  simp [mrk, h]
theorem mrk_next (k0 k rule : Nat) (l : PB) (P : List Pl) (p : Pl) (hk : k0 ≤ k) (h : P[k]? = some p) : mrk k0 (k + 1) rule l P = (mrk k0 k rule l P).set k (p.mark rule (l.has k)) := by
  have hkl : k < P.length := (List.getElem?_eq_some_iff.1 h).1
  apply List.ext_getElem?
  intro i
  by_cases e : k = i
  · subst e
    rw [List.getElem?_set_self (by rw [mrk_len]; exact hkl)]
    simp [mrk, h, hk]
  · rw [List.getElem?_set_ne e]
    simp only [mrk, List.getElem?_mapIdx]
    have : decide (i < k + 1) = decide (i < k) := by rw [decide_eq_decide]; omega
    rw [this]
theorem mrk_xs (k0 k rule : Nat) (l : PB) (P : List Pl) : xs (mrk k0 k rule l P) = xs P := by
  unfold xs mrk
  apply List.ext_getElem?
  intro i
  simp only [List.getElem?_map, List.getElem?_mapIdx]
  cases P[i]? with
  | none => rfl
  | some p =>
    simp only [Option.map_some]
    split <;> rfl
/-- A rule more: its places, and with which a match may begin. -/
def ruleStep (T : List PNode) (rule n : Nat) (s : List Pl × PB) : List Pl × PB :=
  (mrk s.1.length (adN T n s.1).1.length rule (adN T n s.1).2.l (adN T n s.1).1, s.2.or (adN T n s.1).2.f)
theorem ruleStep_xs {T : List PNode} (hT : G.WF T) (rule n : Nat) (hn : n < T.length) (s : List Pl × PB) : xs (ruleStep T rule n s).1 = xs s.1 ++ G.lv T n := by
  unfold ruleStep
  rw [mrk_xs, adN_xs hT n hn]

/-- Behind the places of a rule. -/
structure Ru (w0 : World) (I : Nat → Prop) (b : Nat) (v0 : Value) (k7 g n cap : Nat) (P : List Pl) (V : List Value) (f : PB) (en : En) (w : World) : Prop where
  ma : MaAt w I b (.slice (some ⟨g, 0, none⟩) n cap) P V f
  mv : Mv b w0 v0 w (.slice (some ⟨g, 0, none⟩) n cap)
  e7 : EnAt w k7 en
  n7 : w0.heap.size ≤ k7
  ng : g ≠ k7
  lt : b < w0.heap.size
  hI : ∀ k, I k → k < w0.heap.size
theorem Ru.below {w0 : World} {I : Nat → Prop} {b : Nat} {v0 : Value} {k7 g n cap : Nat} {P : List Pl} {V : List Value} {f : PB} {en : En} {w w2 : World} (h : Ru w0 I b v0 k7 g n cap P V f en w) (hb : Below w.heap.size w w2) : Ru w0 I b v0 k7 g n cap P V f en w2 where
  ma := h.ma.below (fun k hk => Nat.lt_of_lt_of_le (h.hI k hk) h.mv.kept.size) hb
  mv := h.mv.trans (Mv.of_below hb)
  e7 := (hb.block _ (lt_of_block h.e7)).trans h.e7
  n7 := h.n7
  ng := h.ng
  lt := h.lt
  hI := h.hI
theorem Ru.start {w w1 : World} {I : Nat → Prop} {b : Nat} {v : Value} {g n cap : Nat} {P P1 : List Pl} {V V1 : List Value} {f : PB} (hM : MaAt w I b v P V f) (hI : ∀ k, I k → k < w.heap.size) (hM1 : MaAt w1 I b (.slice (some ⟨g, 0, none⟩) n cap) P1 V1 f) (hv : Mv b w v w1 (.slice (some ⟨g, 0, none⟩) n cap)) (x : En) :
    Ru w I b v w1.heap.size g n cap P1 V1 f x (w1.alloc (.cells #[.int .u64 x.f.a, .int .u64 x.f.c, .int .u64 x.l.a, .int .u64 x.l.c, .bool x.e] 184)) := by
  have hb : Below w1.heap.size w1 (w1.alloc (.cells #[.int .u64 x.f.a, .int .u64 x.f.c, .int .u64 x.l.a, .int .u64 x.l.c, .bool x.e] 184)) := (Below.refl _ _).alloc (Nat.le_refl _) _
  have hs := hv.kept.size
  have hg := (hM1.row.lt g rfl).2
  exact { ma := hM1.below (fun k hk => by have := hI k hk; omega) hb, mv := hv.trans (Mv.of_below hb), e7 := heap_alloc_new w1 _, n7 := by omega, ng := by omega, lt := lt_of_block hM.blk, hI := hI }
/-- With which a match may begin is written. -/
theorem Ru.first {w0 : World} {I : Nat → Prop} {b : Nat} {v0 : Value} {k7 g n cap : Nat} {P : List Pl} {V : List Value} {f : PB} {en : En} {w : World} (h : Ru w0 I b v0 k7 g n cap P V f en w) (f' : PB) : Ru w0 I b v0 k7 g n cap P V f' en ((w.setCell ⟨b, 1, none⟩ (.int .u64 f'.a)).setCell ⟨b, 2, none⟩ (.int .u64 f'.c)) := by
  have hlt := h.lt
  have h7 := h.n7
  exact { ma := h.ma.first f', mv := ⟨(h.mv.kept.setCell (fun hn => hn.1 rfl) _).setCell (fun hn => hn.1 rfl) _, h.mv.lies⟩, e7 := (Rf.blk_ne _ (by omega)).trans ((Rf.blk_ne _ (by omega)).trans h.e7), n7 := h.n7, ng := h.ng, lt := h.lt, hI := h.hI }
/-- A cell of a place is written. -/
theorem Ru.put {w0 : World} {I : Nat → Prop} {b : Nat} {v0 : Value} {k7 g n cap : Nat} {P : List Pl} {V : List Value} {f : PB} {en : En} {w : World} (h : Ru w0 I b v0 k7 g n cap P V f en w) (hn : n = P.length) (k : Nat) (p p' : Pl) (hp : P[k]? = some p) (o : Nat) (ho : o < 6) (u : Value) (hx : p'.x = p.x) (hc : ∀ v, pcell p' v = (pcell p v).set o u) :
    Ru w0 I b v0 k7 g n cap (P.set k p') V f en (w.setCell ⟨g, k * 6 + o, none⟩ u) := by
  subst hn
  have h1 := h.ma.put k p p' hp o ho u hx hc
  rw [List.length_set] at h1
  refine { ma := h1, mv := ⟨?_, h.mv.lies⟩, e7 := (Rf.blk_ne _ (fun e => h.ng e.symm)).trans h.e7, n7 := h.n7, ng := h.ng, lt := h.lt, hI := h.hI }
  rcases h.mv.lies g rfl with e | e
  · exact h.mv.kept.setCell (fun hn => hn.2 e) _
  · exact h.mv.kept.setNew e _

structure RuReads (w : World) (b g n cap k : Nat) (f : PB) (p : Pl) : Prop where
  m0 : w.cell? ⟨b, 0, none⟩ = some (.slice (some ⟨g, 0, none⟩) n cap)
  p2 : w.cell? ⟨g, k * 6 + 2, none⟩ = some (.int .i64 (p.rule : Int))
  p3 : w.cell? ⟨g, k * 6 + 3, none⟩ = some (.bool p.last)
  fr : ∀ o, w.frozen? ⟨g, o, none⟩ = false
theorem MaAt.pl2 {w : World} {I : Nat → Prop} {b g n cap : Nat} {P : List Pl} {V : List Value} {f : PB} (h : MaAt w I b (.slice (some ⟨g, 0, none⟩) n cap) P V f) {k : Nat} {p : Pl} (hp : P[k]? = some p) : RuReads w b g n cap k f p := by
  have hkl : k < P.length := (List.getElem?_eq_some_iff.1 hp).1
  have hv : V[k]? = some (V[k]'(by rw [h.len]; exact hkl)) := List.getElem?_eq_getElem _
  have hm0 := Rf.cell_blk h.blk 0 _ rfl
  have hrow := h.row
  obtain ⟨a, c, he⟩ := Rf.own_len hrow
  simp only [Value.slice.injEq] at he
  obtain ⟨_, he, _⟩ := he
  subst he
  exact ⟨hm0, own_cell' hrow (k * 6 + 2) ((pcells_get hp hv 2 (by omega)).trans rfl), own_cell' hrow (k * 6 + 3) ((pcells_get hp hv 3 (by omega)).trans rfl), fun o => hrow.frozenAt o⟩

set_option maxRecDepth 100000 in
set_option maxHeartbeats 4000000 in
theorem addrule_any (I : Nat → Prop) (b : Nat) (T : List PNode) (B : List Nat) (hT : G.WF T) (n : Nat) (hnl : n < T.length) (rule : Nat) (w : World) (v : Value) (P : List Pl) (V : List Value) (f : PB)
    (hM : MaAt w I b v P V f) (hTr : Tree w I T B) (hsz : P.length + (G.lv T n).length ≤ 100) :
    Calls Tryz.prog 79 #[pv b, .int .i64 (rule : Int), pv (bl B n)] w fun e w' => e = .returned (.tuple #[]) ∧ ∃ v' V', MaAt w' I b v' (ruleStep T rule n (P, f)).1 V' (ruleStep T rule n (P, f)).2 ∧ Mv b w v w' v' := by
  have hA := add_any I b T B hT n hnl w v P V f hM hTr hsz
  have hrl : (adN T n P).1.length = P.length + (G.lv T n).length := adN_len hT n hnl P
  have hpos : 1 ≤ (G.lv T n).length := G.pl_pos hT n hnl
  unfold APost at hA
  unfold ruleStep
  simp only
  generalize adN T n P = r at *
  obtain ⟨RP, rf, rl, re⟩ := r
  simp only at hA hrl ⊢
  obtain ⟨va, vc, hve⟩ := Rf.own_len hM.row
  subst hve
  have m0 := Rf.cell_blk hM.blk 0 (.slice va P.length vc) rfl
  have hlen : RP.length ≤ 100 := by omega
  go_enter Tryz.func79, Tryz.ntmps79
  go_upto_region 2 with (go_at_call 104
                         refine hA.mono ?_
                         rintro e w1 ⟨rfl, v1, V1, hM1, hv1⟩
                         obtain ⟨g, cap, hv, _, _⟩ := hM1.row.form (by omega)
                         subst hv
                         have M1 := Ru.start hM hTr.lt hM1 hv1 ⟨rf, rl, re⟩
                         have f1 := Rf.cell_blk M1.ma.blk 1 (.int .u64 f.a) rfl
                         have f2 := Rf.cell_blk M1.ma.blk 2 (.int .u64 f.c) rfl
                         have f3 := fun o => Rf.free_blk M1.ma.blk o)
  go_cut [] from 17 to 26 (fun wx => Ru w I b (.slice va P.length vc) w1.heap.size g RP.length cap RP V1 (f.or rf) ⟨rf, rl, re⟩ wx)
  case first =>
    go_region_with (go_at_call 105; refine (bor_any _ f rf).mono ?_; rintro e w2 ⟨rfl, hb2⟩; have M2 := M1.below ((Below.refl _ _).drew.trans hb2); have q1 := Rf.cell_blk M2.ma.blk 1 (.int .u64 f.a) rfl; have q2 := Rf.cell_blk M2.ma.blk 2 (.int .u64 f.c) rfl; have q3 := fun o => Rf.free_blk M2.ma.blk o)
    all_goals (try go_wp2_with fail)
    all_goals go_meet
    all_goals exact M2.first (f.or rf)
  case rest =>
    have m0 := Rf.cell_blk hcut.ma.blk 0 (.slice (some ⟨g, 0, none⟩) RP.length cap) rfl
    generalize w1.heap.size = k7 at *
    have HC : Hid _ := hcut
    clear hcut M1 f1 f2 f3
    go_wp2
    clear m0
    go_loopw [8] (fun vk wr => ∃ k : Nat, vk = .int .i64 k ∧ P.length ≤ k ∧ k ≤ RP.length ∧ Ru w I b (.slice va P.length vc) k7 g RP.length cap (mrk P.length k rule rl RP) V1 (f.or rf) ⟨rf, rl, re⟩ wr) (fun vk _ => RP.length - (intOf vk).toNat)
    case atStart => exact ⟨P.length, rfl, Nat.le_refl _, by omega, by rw [mrk_none]; exact HC.out⟩
    case round =>
      obtain ⟨k, rfl, hk0, hk, hL⟩ := hrel
      have m0 := Rf.cell_blk hL.ma.blk 0 (.slice (some ⟨g, 0, none⟩) RP.length cap) rfl
      by_cases hlt : k < RP.length
      · have hlt' : (k : Int) < (RP.length : Int) := by omega
        have hp : RP[k]? = some (RP[k]'hlt) := List.getElem?_eq_getElem _
        generalize RP[k]'hlt = p at hp
        obtain ⟨_, p2, p3, fr⟩ := hL.ma.pl2 (mrk_get P.length k rule rl RP p hp)
        have hl0 := mrk_len P.length k rule rl RP
        have L6 := hL.put hl0.symm k p ⟨p.x, rule, p.last, p.be⟩ (mrk_get P.length k rule rl RP p hp) 2 (by omega) (.int .i64 (rule : Int)) rfl (fun v => rfl)
        have hp6 : ((mrk P.length k rule rl RP).set k ⟨p.x, rule, p.last, p.be⟩)[k]? = some ⟨p.x, rule, p.last, p.be⟩ := List.getElem?_set_self (by rw [hl0]; exact hlt)
        have hN : mrk P.length (k + 1) rule rl RP = ((mrk P.length k rule rl RP).set k ⟨p.x, rule, p.last, p.be⟩).set k (p.mark rule (rl.has k)) := by rw [List.set_set, mrk_next P.length k rule rl RP p hk0 hp]
        have HN : Hid _ := hN
        clear hN
        go_upto_region 7 with fail
        clear m0 p2 p3 fr
        generalize wr.setCell ⟨g, k * 6 + 2, none⟩ (.int .i64 (rule : Int)) = w6 at *
        obtain ⟨n0, q2, q3, fr⟩ := L6.ma.pl2 hp6
        obtain ⟨z0, z1, z2, z3, z4, zf⟩ := L6.e7.reads
        go_region_with (go_at_call 106; refine (bhas_any _ rl k (by omega)).mono ?_; rintro e w7 ⟨rfl, hb7⟩; have L7 := L6.below ((Below.refl _ _).drew.trans hb7); obtain ⟨n1, s2, s3, fr2⟩ := L7.ma.pl2 hp6)
        all_goals
          have L8 := L7.put (by rw [List.length_set]; exact hl0.symm) k ⟨p.x, rule, p.last, p.be⟩ (p.mark rule (rl.has k)) hp6 3 (by omega) (.bool (rl.has k)) rfl (fun v => rfl)
          rw [← HN.out] at L8
          have HL : Hid _ := L8
          clear L8 n0 q2 q3 fr z0 z1 z2 z3 z4 zf n1 s2 s3 fr2
          go_wp2
          exact ⟨⟨k + 1, by go_num, by omega, by omega, HL.out⟩, by simp [intOf]; omega⟩
      · have e : k = RP.length := by omega
        subst e
        have hlt' : ¬ (RP.length : Int) < (RP.length : Int) := by omega
        go_wp2
        first | go_ret2 | go_ret3 | go_returns
        refine ⟨rfl, _, ⟨V1, ?_⟩, hL.mv⟩
        rw [← hrl]
        exact hL.ma

end Pr
end Go.Proofs.YtpgcidpghmoibaaGreatDoor

namespace Go.Proofs.YtpgcidpghmoibaaGreatDoor
namespace Pr
open Go.RowKit
open Rf (Kept Lies)
open G (PNode)

/-- The machine of the first k rules. -/
def machN (T : List PNode) (Q : List Nat) : Nat → List Pl × PB
  | 0 => ([], PB.zero)
  | k + 1 => ruleStep T k (Q.getD k 0) (machN T Q k)
theorem machN_xs {T : List PNode} (hT : G.WF T) {Q : List Nat} (hQ : ∀ q ∈ Q, q < T.length) : ∀ k, k ≤ Q.length → xs (machN T Q k).1 = (Q.take k).flatMap (G.lv T)
  | 0, _ => by simp [machN, xs]
  | k + 1, hk => by
    have ih := machN_xs hT hQ k (by omega)
    have hx : Q[k]? = some (Q[k]'(by omega)) := List.getElem?_eq_getElem _
    have hg : Q.getD k 0 = Q[k]'(by omega) := by simp [List.getD, hx]
    rw [machN, ruleStep_xs hT k _ (by rw [hg]; exact hQ _ (List.getElem_mem _)), ih, hg, take_snoc hx]
    simp only [List.flatMap_append, List.flatMap_cons, List.flatMap_nil, List.append_nil]
theorem machN_len {T : List PNode} (hT : G.WF T) {Q : List Nat} (hQ : ∀ q ∈ Q, q < T.length) (k : Nat) (hk : k ≤ Q.length) : (machN T Q k).1.length = ((Q.take k).flatMap (G.lv T)).length := by
  rw [← xs_len, machN_xs hT hQ k hk]

set_option maxRecDepth 100000 in
set_option maxHeartbeats 2000000 in
theorem new_any (w : World) (I : Nat → Prop) (T : List PNode) (B Q : List Nat) (vR : Value) (hT : G.WF T) (hTr : Tree w I T B) (hrow : w.ownsRow 0 143 1 vR Q.length (ptrs B Q)) (hQ : ∀ q ∈ Q, q < T.length) (hn : Q.length ≤ 100000) (hsz : (Q.flatMap (G.lv T)).length ≤ 100) :
    Calls Tryz.prog 52 #[vR] w fun e w' => e = .returned (pv w.heap.size) ∧ (∃ v V, MaAt w' I w.heap.size v (machN T Q Q.length).1 V (machN T Q Q.length).2) ∧ Below w.heap.size w w' := by
  obtain ⟨va, vc, hve⟩ := Rf.own_len hrow
  subst hve
  have hb0 : Below w.heap.size w (w.alloc (.cells #[.slice none 0 0, .int .u64 0, .int .u64 0] 155)) := (Below.refl _ w).alloc (Nat.le_refl _) _
  have nn : ∀ k, (Value.slice none 0 0).ownBlock ≠ some k := fun k e => by simp [Value.ownBlock] at e
  have hM0 : MaAt (w.alloc (.cells #[.slice none 0 0, .int .u64 0, .int .u64 0] 155)) I w.heap.size (.slice none 0 0) [] [] PB.zero := { blk := heap_alloc_new w _, len := rfl, row := World.ownsRow_nil _ _ _ _, sets := fun k p u hp => by simp at hp, nb := nn _, ib := fun h => by have := hTr.lt _ h; omega, iv := fun k e => absurd e (nn k) }
  have HM0 : Hid _ := hM0
  go_enter Tryz.func52, Tryz.ntmps52
  go_wp2
  go_loopw [4, 5, 10] (fun _ _ vk wr => ∃ (k : Nat) (v : Value) (V : List Value), vk = .int .i64 k ∧ k ≤ Q.length ∧ MaAt wr I w.heap.size v (machN T Q k).1 V (machN T Q k).2 ∧ Mv w.heap.size (w.alloc (.cells #[.slice none 0 0, .int .u64 0, .int .u64 0] 155)) (.slice none 0 0) wr v) (fun _ _ vk _ => Q.length - (intOf vk).toNat)
  case atStart => exact ⟨0, _, _, rfl, Nat.zero_le _, HM0.out, Mv.refl _ _ _⟩
  case round =>
    obtain ⟨k, v, V, rfl, hk, hM, hv⟩ := hrel
    have hbw : Below w.heap.size w wr := ⟨hv.kept.os, hv.kept.tape, hv.kept.output, by have := hv.kept.size; simp at this; omega, fun j hj => (hv.kept.block j (by simp; omega) ⟨by omega, nn j⟩).trans (hb0.block j hj)⟩
    by_cases hlt : k < Q.length
    · have hlt' : (k : Int) < (Q.length : Int) := by omega
      have hx : Q[k]? = some (Q[k]'hlt) := List.getElem?_eq_getElem _
      have hg : Q.getD k 0 = Q[k]'hlt := by simp [List.getD, hx]
      generalize Q[k]'hlt = q at hx hg
      have hqm := List.mem_of_getElem? hx
      have hrow1 := Rf.own_same (w' := wr) hrow (fun j e => hbw.block j (hrow.lt j e).2)
      obtain ⟨g, cap, hve, _, _⟩ := hrow1.form (by omega)
      simp only [Value.slice.injEq] at hve
      obtain ⟨rfl, _, rfl⟩ := hve
      have c0 : wr.cell? ⟨g, k, none⟩ = some (.pointer (some ⟨bl B q, 0, none⟩)) := own_cell' hrow1 k (by simp [ptrs, hx, pv])
      have hml := machN_len hT hQ k hk
      have hft := flat_take (T := T) hx
      have hA := addrule_any I w.heap.size T B hT q (hQ q hqm) k wr v (machN T Q k).1 V (machN T Q k).2 hM (hTr.below hbw) (by omega)
      have hS : machN T Q (k + 1) = ruleStep T k q ((machN T Q k).1, (machN T Q k).2) := by rw [machN, hg]
      rw [← hS] at hA
      have HX : Hid _ := And.intro hM (And.intro hv hbw)
      clear hM hS hrow1 hml hft hg
      go_wp2_with (go_at_call 79; refine hA.mono ?_; rintro e w1 ⟨rfl, v1, V1, hM1, hv1⟩)
      exact ⟨⟨k + 1, v1, V1, by go_num, by omega, hM1, hv.trans hv1⟩, by simp [intOf]; omega⟩
    · have e : k = Q.length := by omega
      subst e
      have hlt' : ¬ (Q.length : Int) < (Q.length : Int) := by omega
      have HX : Hid _ := And.intro hM hbw
      clear hM hv
      go_wp2
      go_ret
      exact ⟨rfl, ⟨v, V, HX.out.1⟩, HX.out.2⟩

end Pr
end Go.Proofs.YtpgcidpghmoibaaGreatDoor
