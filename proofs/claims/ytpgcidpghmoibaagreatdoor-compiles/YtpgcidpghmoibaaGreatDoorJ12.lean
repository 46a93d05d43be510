/-
  THE REFERENCE's RULES, asked: the walks of tells and Same: do the places of the rules tell two numbers apart. Conditions: the table of nodes is well made; bounds on how many there are.
-/
import Derived.Test.YtpgcidpghmoibaaGreatDoorJ03
namespace Go.Proofs.YtpgcidpghmoibaaGreatDoor
namespace Rf
open Go.RowKit
open G (PNode)

def TellsAt (b : Nat) (T : List PNode) (Q : List Nat) (a c : Int) (n : Nat) : Prop :=
  ∀ (w : World) (cs : Array Value) (vN vR : Value) (V : List (Value × Value)), RoAt w b T Q cs vN vR V →
    Calls Tryz.prog 56 #[.pointer (some ⟨b, 0, none⟩), .int .i64 (n : Int), .int .i64 a, .int .i64 c] w fun e w' => e = .returned (.bool (G.tellB T a c n)) ∧ Below w.heap.size w w'

set_option maxRecDepth 100000 in
set_option maxHeartbeats 2000000 in
theorem tells_at (b : Nat) (T : List PNode) (Q : List Nat) (a c : Int) (hT : G.WF T) (htl : T.length ≤ 100000) (hpl : ∀ x ∈ T, x.parts.length ≤ 100000 ∧ x.ranges.length ≤ 100000) (n : Nat) (hn : n < T.length) (hIH : ∀ m, m < n → TellsAt b T Q a c m) : TellsAt b T Q a c n := by
  intro w cs vN vR V h
  have c5 := cell_blk h.blk 5 _ h.c5
  have hxT : T[n]? = some (T[n]'hn) := List.getElem?_eq_getElem hn
  generalize T[n]'hn = x at hxT
  have hxp := hpl x (List.mem_of_getElem? hxT)
  obtain ⟨⟨rv, pv⟩, hu⟩ : ∃ u, V[n]? = some u := ⟨V[n]'(by rw [h.len]; exact hn), List.getElem?_eq_getElem _⟩
  obtain ⟨oR, oP⟩ := h.oV n x (rv, pv) hxT hu
  obtain ⟨ra, rc, hre⟩ := own_len oR
  obtain ⟨pa, pc, hpe⟩ := own_len oP
  simp only at hre hpe
  subst hre hpe
  obtain ⟨g, cap, hv, _, _⟩ := h.oN.form (by omega)
  subst hv
  have hgl : g < w.heap.size := (h.oN.lt g rfl).2
  have hbl := lt_of_block h.blk
  have d0 : w.cell? ⟨g, n * 5, none⟩ = some (.int .u8 (x.kind : Int)) := own_cell' h.oN (n * 5 + 0) ((ncells_get hxT hu 0 (by omega)).trans rfl)
  have d1 : w.cell? ⟨g, n * 5 + 1, none⟩ = some (.slice ra x.ranges.length rc) := own_cell' h.oN (n * 5 + 1) ((ncells_get hxT hu 1 (by omega)).trans rfl)
  have d2 : w.cell? ⟨g, n * 5 + 2, none⟩ = some (.bool x.other) := own_cell' h.oN (n * 5 + 2) ((ncells_get hxT hu 2 (by omega)).trans rfl)
  have d3 : w.cell? ⟨g, n * 5 + 3, none⟩ = some (.slice pa x.parts.length pc) := own_cell' h.oN (n * 5 + 3) ((ncells_get hxT hu 3 (by omega)).trans rfl)
  have d4 : w.cell? ⟨g, n * 5 + 4, none⟩ = some (.int .i64 (x.size : Int)) := own_cell' h.oN (n * 5 + 4) ((ncells_get hxT hu 4 (by omega)).trans rfl)
  have hst := G.tellB_step hT a c hxT
  have hBb : (w.alloc (.cells #[.int .u8 (x.kind : Int), .slice ra x.ranges.length rc, .bool x.other, .slice pa x.parts.length pc, .int .i64 (x.size : Int)] 118)).heap[w.heap.size]? = _ := heap_alloc_new w _
  by_cases hk : x.kind = 115
  · rw [if_pos hk] at hst
    have HT : Hid _ := hst
    clear hst
    have hkb : ((x.kind : Int) == 115) = true := by simp; omega
    clear hk
    have HBb : Hid _ := hBb
    clear hBb
    go_enter Tryz.func56, Tryz.ntmps56
    go_wp2_with (first
      | (go_at_call 85; refine hN2.mono ?_; rintro e w2 ⟨rfl, hb2⟩)
      | (go_at_call 85; refine (in_any _ x x.kind (x.size : Int) ra pa rc x.parts.length pc a (oR.alloc _) hxp.2).mono ?_; rintro e w1 ⟨rfl, hb1⟩; have hbb : w1.heap[w.heap.size]? = _ := (hb1.block w.heap.size (by simp)).trans HBb.out; have e0 := cell_blk hbb 0 (.int .u8 (x.kind : Int)) rfl; have e1 := cell_blk hbb 1 (.slice ra x.ranges.length rc) rfl; have e2 := cell_blk hbb 2 (.bool x.other) rfl; have e3 := cell_blk hbb 3 (.slice pa x.parts.length pc) rfl; have e4 := cell_blk hbb 4 (.int .i64 (x.size : Int)) rfl; have hN2 := in_any w1 x x.kind (x.size : Int) ra pa rc x.parts.length pc c (own_same oR (fun k e => (hb1.block k (by have := (oR.lt k e).2; simp; omega)).trans (Below.heap_alloc _ _ _ (oR.lt k e).2))) hxp.2; clear hbb))
    go_ret
    refine ⟨ret_bool HT.out.symm, ?_⟩
    exact (((Below.refl _ _).alloc (Nat.le_refl _) _).trans (hb1.mono (by simp))).trans (hb2.mono (by have := hb1.size; simp at this; omega))
  · rw [if_neg hk] at hst
    have HT : Hid _ := hst
    clear hst
    have hkb : ((x.kind : Int) == 115) = false := by simp; omega
    clear hk
    have hpn := (hT n x hxT).parts
    have HW0 : Hid _ := hBb
    have hbe : Below w.heap.size w (w.alloc (.cells #[.int .u8 (x.kind : Int), .slice ra x.ranges.length rc, .bool x.other, .slice pa x.parts.length pc, .int .i64 (x.size : Int)] 118)) := (Below.refl _ _).alloc (Nat.le_refl _) _
    have HBe : Hid _ := hbe
    clear hBb hbe
    go_enter Tryz.func56, Tryz.ntmps56
    go_wp2
    go_loopw [12] (fun i wr => ∃ j : Nat, j ≤ x.parts.length ∧ i = .int .i64 j ∧ (x.parts.take j).any (G.tellB T a c) = false ∧ wr.heap[w.heap.size]? = some (.cells #[.int .u8 (x.kind : Int), .slice ra x.ranges.length rc, .bool x.other, .slice pa x.parts.length pc, .int .i64 (x.size : Int)] 118 (0, 0)) ∧ Below w.heap.size w wr) (fun i _ => x.parts.length - (intOf i).toNat)
    case atStart => exact ⟨0, by omega, rfl, rfl, HW0.out, HBe.out⟩
    case round =>
      obtain ⟨j, hj, rfl, hall, hbox, hbw⟩ := hrel
      have HA : Hid ((x.parts.take j).any (G.tellB T a c) = false) := hall
      clear hall
      have cb3 := cell_blk hbox 3 (.slice pa x.parts.length pc) rfl
      have hRo := h.below hbw
      have hlb := lt_of_block hbox
      by_cases hlt : j < x.parts.length
      · have hpj : x.parts[j]? = some (x.parts[j]'hlt) := List.getElem?_eq_getElem hlt
        generalize x.parts[j]'hlt = p at hpj
        have hpp := hpn p (List.mem_of_getElem? hpj)
        have oP' := own_same oP (fun k e => hbw.block k (oP.lt k e).2)
        obtain ⟨gp, capp, hvp, _, _⟩ := oP'.form (by omega)
        simp only [Value.slice.injEq] at hvp
        obtain ⟨rfl, _, rfl⟩ := hvp
        have cp : wr.cell? ⟨gp, j, none⟩ = some (.int .i64 (p : Int)) := own_cell' oP' j (by simp [ints, hpj])
        have hat := any_take (G.tellB T a c) x.parts j p hpj
        have HAT : Hid _ := hat
        clear hat
        have hN := hIH p hpp wr cs _ vR V hRo
        have hpb : p ≤ 100000 := by omega
        cases htb : G.tellB T a c p with
        | true =>
          rw [htb] at hN
          have HM : Hid (x.parts.any (G.tellB T a c) = true) := List.any_eq_true.2 ⟨p, List.mem_of_getElem? hpj, htb⟩
          clear htb
          go_wp2_with (go_at_call 56; refine hN.mono ?_; rintro e w2 ⟨rfl, hb2⟩)
          go_ret
          exact ⟨ret_bool (HT.out.trans HM.out).symm, hbw.trans (hb2.mono (by have := hbw.size; omega))⟩
        | false =>
          rw [htb] at hN
          have HTB : Hid _ := htb
          clear htb
          go_wp2_with (go_at_call 56; refine hN.mono ?_; rintro e w2 ⟨rfl, hb2⟩)
          go_roundw
          case rel => exact ⟨j + 1, by omega, by go_num, by rw [HAT.out, HA.out, HTB.out]; rfl, (hb2.block w.heap.size hlb).trans hbox, hbw.trans (hb2.mono (by have := hbw.size; omega))⟩
          case measure => simp [intOf]; omega
      · have e : j = x.parts.length := by omega
        have HM : Hid (x.parts.any (G.tellB T a c) = false) := by have := HA.out; rwa [e, List.take_length] at this
        clear HA e
        go_wp2
        go_ret
        exact ⟨ret_bool (HT.out.trans HM.out).symm, hbw⟩

theorem tells_any (b : Nat) (T : List PNode) (Q : List Nat) (a c : Int) (hT : G.WF T) (htl : T.length ≤ 100000) (hpl : ∀ x ∈ T, x.parts.length ≤ 100000 ∧ x.ranges.length ≤ 100000) : ∀ n, n < T.length → TellsAt b T Q a c n := by
  intro n
  induction n using Nat.strongRecOn with
  | ind n ih =>
    intro hn
    exact tells_at b T Q a c hT htl hpl n hn (fun m hm => ih m hm (by omega))

set_option maxRecDepth 100000 in
set_option maxHeartbeats 2000000 in
theorem same_any (w : World) (b : Nat) (T : List PNode) (Q : List Nat) (a c : Int) (cs : Array Value) (vN vR : Value) (V : List (Value × Value)) (h : RoAt w b T Q cs vN vR V) (hT : G.WF T) (htl : T.length ≤ 100000) (hpl : ∀ x ∈ T, x.parts.length ≤ 100000 ∧ x.ranges.length ≤ 100000) (hQ : ∀ q ∈ Q, q < T.length) (hql : Q.length ≤ 100000) :
    Calls Tryz.prog 19 #[.pointer (some ⟨b, 0, none⟩), .int .i64 a, .int .i64 c] w fun e w' => e = .returned (.bool (!(Q.any (G.tellB T a c)))) ∧ Below w.heap.size w w' := by
  obtain ⟨ra, rc, hre⟩ := own_len h.oR
  subst hre
  go_enter Tryz.func19, Tryz.ntmps19
  go_wp2
  go_loopw [7] (fun i wr => ∃ j : Nat, j ≤ Q.length ∧ i = .int .i64 j ∧ (Q.take j).any (G.tellB T a c) = false ∧ Below w.heap.size w wr) (fun i _ => Q.length - (intOf i).toNat)
  case atStart => exact ⟨0, by omega, rfl, rfl, Below.refl _ _⟩
  case round =>
    obtain ⟨j, hj, rfl, hall, hbw⟩ := hrel
    have HA : Hid ((Q.take j).any (G.tellB T a c) = false) := hall
    clear hall
    have hRo := h.below hbw
    have c7 := cell_blk hRo.blk 7 _ hRo.c7
    by_cases hlt : j < Q.length
    · have hqj : Q[j]? = some (Q[j]'hlt) := List.getElem?_eq_getElem hlt
      generalize Q[j]'hlt = q at hqj
      have hqT := hQ q (List.mem_of_getElem? hqj)
      obtain ⟨gr, capr, hvr, _, _⟩ := hRo.oR.form (by omega)
      simp only [Value.slice.injEq] at hvr
      obtain ⟨rfl, _, rfl⟩ := hvr
      have cq : wr.cell? ⟨gr, j, none⟩ = some (.int .i64 (q : Int)) := own_cell' hRo.oR j (by simp [ints, hqj])
      have hat := any_take (G.tellB T a c) Q j q hqj
      have HAT : Hid _ := hat
      clear hat
      have hN := tells_any b T Q a c hT htl hpl q hqT wr cs _ _ V hRo
      cases htb : G.tellB T a c q with
      | true =>
        rw [htb] at hN
        have HM : Hid (Q.any (G.tellB T a c) = true) := List.any_eq_true.2 ⟨q, List.mem_of_getElem? hqj, htb⟩
        clear htb
        go_wp2_with (go_at_call 56; refine hN.mono ?_; rintro e w2 ⟨rfl, hb2⟩)
        go_ret
        exact ⟨ret_bool (by rw [HM.out]; rfl), hbw.trans (hb2.mono (by have := hbw.size; omega))⟩
      | false =>
        rw [htb] at hN
        have HTB : Hid _ := htb
        clear htb
        go_wp2_with (go_at_call 56; refine hN.mono ?_; rintro e w2 ⟨rfl, hb2⟩)
        go_roundw
        case rel => exact ⟨j + 1, by omega, by go_num, by rw [HAT.out, HA.out, HTB.out]; rfl, hbw.trans (hb2.mono (by have := hbw.size; omega))⟩
        case measure => simp [intOf]; omega
    · have e : j = Q.length := by omega
      have HM : Hid (Q.any (G.tellB T a c) = false) := by have := HA.out; rwa [e, List.take_length] at this
      clear HA e
      go_wp2
      go_ret
      exact ⟨ret_bool (by rw [HM.out]; rfl), hbw⟩

end Rf
end Go.Proofs.YtpgcidpghmoibaaGreatDoor
