/-
  THE REFERENCE's READER: the walks of word, find, want: a name behind a dollar sign, what was defined by a name, a byte that must come. Conditions: the source has at most 2000 bytes; bounds on places.
  THE REFERENCE's READER: the walks of find and want: what was defined by a name, a byte that must come. Conditions: the source has at most 2000 bytes; bounds on places.
-/
import Derived.Test.YtpgcidpghmoibaaGreatDoorK04
namespace Go.Proofs.YtpgcidpghmoibaaGreatDoor
namespace Rf
open Go.RowKit
open G (PNode)
theorem ret_str {a b : ByteArray} (h : a = b) : Ending.returned (.string a) = .returned (.string b) := by rw [h]
def wordSt (s : ByteArray) (st : St) : St := if G.wend s (st.i + 1) = st.i + 1 then { st with i := st.i + 1, err := 2, place := st.i } else { st with i := G.wend s (st.i + 1) }
set_option maxRecDepth 100000 in
set_option maxHeartbeats 1000000 in
theorem word_any (w : World) (b : Nat) (s : ByteArray) (S : Nat → Prop) (st : St) (hR : Rd w b s S st) (hs : s.size ≤ 2000) (hi : st.i < s.size) (h0 : st.err = 0) :
    Calls Tryz.prog 108 #[.pointer (some ⟨b, 0, none⟩)] w fun e w' => e = .returned (.string (G.name s st.i)) ∧ Evo w S w' S ∧
      Rd w' b s S (wordSt s st) := by
  obtain ⟨hSb, _⟩ := hR.inS
  obtain ⟨c0, c1, c2, c3, c4, fr⟩ := hR.reads
  go_enter Tryz.func108, Tryz.ntmps108
  go_wp2
  go_loopw [] (fun wr => ∃ m, st.i + 1 ≤ m ∧ m ≤ s.size ∧ Rd wr b s S { st with i := m } ∧ Evo w S wr S ∧ G.wend s m = G.wend s (st.i + 1)) (fun wr => s.size - posOf b wr)
  case atStart => exact ⟨st.i + 1, Nat.le_refl _, hi, hR.inc, (Evo.refl w S).set hSb (.inl hSb) _ _, rfl⟩
  case round =>
    clear c0 c1 c2 c3 c4 fr
    obtain ⟨m, hm1, hm2, hRm, hEm, hw⟩ := hrel
    obtain ⟨c0, c1, c2, c3, c4, fr⟩ := hRm.reads
    have HPm : Hid (posOf b wr = m) := hRm.pos
    have HW : Hid (G.wend s m = G.wend s (st.i + 1)) := hw
    clear hw
    by_cases hlow : G.low s m = true
    · obtain ⟨hl, h97, h122⟩ := (G.low_iff s m).1 hlow
      have hl' : (m : Int) < (s.size : Int) := by omega
      have hg1 : (97 : Int) ≤ ((s[m]'hl).toNat : Int) := by rw [U.at_get]; omega
      have hg2 : ((s[m]'hl).toNat : Int) ≤ 122 := by rw [U.at_get]; omega
      go_wp2
      go_quiet (fail)
      go_wp2
      go_roundw
      case rel => exact ⟨m + 1, by omega, by omega, (hRm.drewN _).inc, (hEm.drewN _).set hSb (.inl hSb) _ _, by rw [← G.wend_step hlow]; exact HW.out⟩
      case measure =>
        rw [HPm.out, (hRm.drewN _).inc.pos]
        show s.size - (m + 1) < _
        omega
    · have he : G.wend s m = m := G.wend_end hlow
      have hwe : G.wend s (st.i + 1) = m := by rw [← HW.out]; exact he
      have HN : Hid (G.name s st.i = s.extract (st.i + 1) m) := by show G.name s st.i = _; rw [G.name, hwe]
      have HWE : Hid (G.wend s (st.i + 1) = m) := hwe
      have g1 : (0 : Int) ≤ (st.i : Int) + 1 := by omega
      have g2 : (st.i : Int) + 1 ≤ (m : Int) := by omega
      have g3 : (m : Int) ≤ (s.size : Int) := by omega
      have hcase : (¬ m < s.size) ∨ (∃ hl : m < s.size, ((m : Int) < (s.size : Int)) ∧ decide ((97 : Int) ≤ ((s[m]'hl).toNat : Int)) = false) ∨ (∃ hl : m < s.size, ((m : Int) < (s.size : Int)) ∧ (97 : Int) ≤ ((s[m]'hl).toNat : Int) ∧ decide (((s[m]'hl).toNat : Int) ≤ 122) = false) := by
        by_cases hl : m < s.size
        · right
          have hlo := mt (G.low_iff s m).2 hlow
          by_cases h97 : 97 ≤ U.at' s m
          · exact .inr ⟨hl, by omega, by rw [U.at_get]; omega, by rw [U.at_get]; simp; omega⟩
          · exact .inl ⟨hl, by omega, by rw [U.at_get]; simp; omega⟩
        · exact .inl hl
      have hme : (m = st.i + 1 ∧ ((m : Int) == (st.i : Int) + 1) = true) ∨ (m ≠ st.i + 1 ∧ ((m : Int) == (st.i : Int) + 1) = false) := by
        by_cases h : m = st.i + 1
        · exact .inl ⟨h, by simp; omega⟩
        · exact .inr ⟨h, by simp; omega⟩
      clear hlow he hwe HW
      rcases hcase with hl' | ⟨hl, hl', hg1⟩ | ⟨hl, hl', hg1, hg2⟩
      all_goals
        go_wp2
        go_quiet (fail)
        rcases hme with ⟨hm, hmB⟩ | ⟨hm, hmB⟩
        · have hst : failed { st with i := m } 2 st.i = { st with i := st.i + 1, err := 2, place := st.i } := by rw [failed, if_pos h0, hm]
          have HT : Hid _ := hst
          clear hst
          go_wp2_with (go_at_call 110; refine (fail_any _ b s S _ 2 st.i (hRm.drewN _)).mono ?_; rintro e w' ⟨rfl, hRf, hEf⟩)
          clear c0 c1 c2 c3 c4 fr
          obtain ⟨c0, c1, c2, c3, c4, fr⟩ := hRf.reads
          have c1' : w'.cell? ⟨b, 1, none⟩ = some (.int .i64 (m : Int)) := by rw [c1, HT.out]; show some (Value.int .i64 ((st.i + 1 : Nat) : Int)) = _; rw [hm]
          clear c1 c2 c3 c4
          refine wp_region_quiet_lit (by kernel_rfl) (by kernel_rfl) ?_
          repeat (first | go_big_quiet_step (fail) | quiet_step (fail))
          refine wpQuiet_nil ?_
          intro _ hw'
          obtain ⟨nq2, hw''⟩ := hw'
          subst hw''
          go_wp2
          go_ret
          rw [HT.out] at hRf
          refine ⟨ret_str ?_, ((hEm.drewN _).trans hEf).drewN _, ?_⟩
          · rw [HN.out, hm]
            simp
          · rw [wordSt, HWE.out, if_pos hm]
            exact hRf.drewN _
        · go_wp2
          refine wp_region_quiet_lit (by kernel_rfl) (by kernel_rfl) ?_
          repeat (first | go_big_quiet_step (fail) | quiet_step (fail))
          refine wpQuiet_nil ?_
          intro _ hw'
          obtain ⟨nq2, hw''⟩ := hw'
          subst hw''
          go_wp2
          go_ret
          refine ⟨ret_str HN.out.symm, (hEm.drewN _).drewN _, ?_⟩
          rw [wordSt, HWE.out, if_neg hm]
          exact (hRm.drewN _).drewN _
end Rf
end Go.Proofs.YtpgcidpghmoibaaGreatDoor

namespace Go.Proofs.YtpgcidpghmoibaaGreatDoor
namespace Rf
open Go.RowKit
open G (PNode)
theorem own_cell {w : World} {b e size n g cap : Nat} {xs : List Value} {u : Value} (h : w.ownsRow b e size (.slice (some ⟨g, 0, none⟩) n cap) n xs) (j : Nat) (hu : xs[j]? = some u) : w.cell? ⟨g, j, none⟩ = some u := by
  have := h.cells (g := g) rfl j u hu
  by_cases e : j = 0
  · subst e; exact this
  · simpa [Addr.add, e] using this
theorem bytes_ne {a c : ByteArray} (h : ¬ a = c) : (a.toList == c.toList) = false := by
  rw [ByteArray.toList_eq, ByteArray.toList_eq]
  simp only [beq_eq_false_iff_ne]
  intro e
  apply h
  obtain ⟨⟨l⟩⟩ := a
  obtain ⟨⟨m⟩⟩ := c
  have e' : l = m := e
  rw [e']
def findV (E : List (ByteArray × Nat)) (n : ByteArray) : Int := match G.lookup E n with | some x => (x : Int) | none => -1
set_option maxRecDepth 100000 in
set_option maxHeartbeats 1000000 in
theorem find_any (w : World) (b : Nat) (s : ByteArray) (S : Nat → Prop) (st : St) (n : ByteArray) (hR : Rd w b s S st) (hE : st.env.length ≤ 100000) :
    Calls Tryz.prog 109 #[.pointer (some ⟨b, 0, none⟩), .string n] w fun e w' => e = .returned (.int .i64 (findV st.env n)) ∧ w' = w := by
  obtain ⟨vN, vM, vR, V, A, _, _⟩ := hR
  obtain ⟨ma, mc, hme⟩ := own_len A.oM
  subst hme
  have c6 := cell_blk A.blk 6 (.slice ma st.env.length mc) rfl
  have oM := A.oM
  go_enter Tryz.func109, Tryz.ntmps109
  go_wp2
  go_loop [5] (fun i => ∃ k : Nat, k ≤ st.env.length ∧ i = .int .i64 k ∧ ∀ m x, m < k → st.env[m]? = some x → x.1 ≠ n) (fun i => st.env.length - (intOf i).toNat)
  case atStart => exact ⟨0, by omega, rfl, by omega⟩
  case round =>
    obtain ⟨k, hk, rfl, hall⟩ := hrel
    have HA : Hid _ := hall
    clear hall
    by_cases hlt : k < st.env.length
    · obtain ⟨g, cap, hv, _, _⟩ := oM.form (by omega)
      simp only [Value.slice.injEq] at hv
      obtain ⟨rfl, _, rfl⟩ := hv
      have hx : st.env[k]? = some (st.env[k]'hlt) := List.getElem?_eq_getElem hlt
      generalize st.env[k]'hlt = x at hx
      have c1' : w.cell? ⟨g, k * 2, none⟩ = some (.string x.1) := own_cell oM (k * 2 + 0) ((ecells_get hx 0 (by omega)).trans rfl)
      have c2' : w.cell? ⟨g, k * 2 + 1, none⟩ = some (.int .i64 (x.2 : Int)) := own_cell oM (k * 2 + 1) ((ecells_get hx 1 (by omega)).trans rfl)
      by_cases hn : x.1 = n
      · have HF : Hid (findV st.env n = (x.2 : Int)) := by
          show findV st.env n = _
          have e : G.lookup st.env n = some x.2 := by
            unfold G.lookup
            have hfi : st.env.find? (fun y => decide (y.1 = n)) = some x := by
              rw [List.find?_eq_some_iff_getElem]
              refine ⟨by simpa using hn, k, hlt, (List.getElem?_eq_some_iff.1 hx).2, ?_⟩
              intro m hm
              have := HA.out m _ hm (List.getElem?_eq_getElem (by omega))
              simpa using this
            rw [hfi]
            rfl
          unfold findV
          rw [e]
        go_wp2
        go_ret
        exact ⟨ret_int HF.out.symm, rfl⟩
      · have hnB := bytes_ne hn
        go_wp2
        go_round
        case rel =>
          refine ⟨k + 1, by omega, by go_num, ?_⟩
          intro m y hm hy
          by_cases e : m = k
          · subst e
            rw [hx] at hy
            simp only [Option.some.injEq] at hy
            subst hy
            exact hn
          · exact HA.out m y (by omega) hy
        case measure => simp [intOf]; omega
    · have HF : Hid (findV st.env n = -1) := by
        show findV st.env n = _
        have e : G.lookup st.env n = none := by
          unfold G.lookup
          have hfi : st.env.find? (fun y => decide (y.1 = n)) = none := by
            rw [List.find?_eq_none]
            intro y hy
            obtain ⟨m, hm⟩ := List.getElem?_of_mem hy
            have hml : m < st.env.length := (List.getElem?_eq_some_iff.1 hm).1
            simpa using HA.out m y (by omega) hm
          rw [hfi]
          rfl
        unfold findV
        rw [e]
      go_wp2
      go_ret
      exact ⟨ret_int HF.out.symm, rfl⟩
set_option maxRecDepth 100000 in
set_option maxHeartbeats 1000000 in
theorem want_no (w : World) (b : Nat) (s : ByteArray) (S : Nat → Prop) (st : St) (c : Nat) (hR : Rd w b s S st) (hs : s.size ≤ 2000) (hi : st.i ≤ 100000) (h0 : st.err ≠ 0) :
    Calls Tryz.prog 112 #[.pointer (some ⟨b, 0, none⟩), .int .i64 (c : Int)] w fun e w' => e = .returned (.tuple #[]) ∧ Evo w S w' S ∧ Rd w' b s S { st with i := st.i + 1 } := by
  obtain ⟨hSb, _⟩ := hR.inS
  have hne : ((-1 : Int) != (c : Int)) = true := by simp
  have hfa : failed st 2 st.i = st := by rw [failed, if_neg h0]
  have HF : Hid _ := hfa
  clear hfa
  go_enter Tryz.func112, Tryz.ntmps112
  go_wp2_with (first
    | (go_at_call 80; refine (skip_no _ b s S st hR hs hi h0).mono ?_; rintro e w1 ⟨rfl, hR1, hE1⟩; obtain ⟨c0, c1, c2, c3, c4, fr⟩ := hR1.reads)
    | (go_at_call 107; refine (see_any _ b s S st hR1 hs hi).mono ?_; rw [seeV_no h0]; rintro e w2 ⟨rfl, n2, rfl⟩)
    | (go_at_call 110; refine (fail_any _ b s S st 2 st.i (hR1.drewN _)).mono ?_; rw [HF.out]; rintro e w3 ⟨rfl, hR3, hE3⟩; clear c0 c1 c2 c3 c4 fr; obtain ⟨c0, c1, c2, c3, c4, fr⟩ := hR3.reads))
  go_end0
  exact ⟨rfl, ((hE1.drewN _).trans hE3).set hSb (.inl hSb) _ _, hR3.inc⟩
def wantSt (s : ByteArray) (st : St) (c : Nat) : St := if G.pk s (G.skip s st.i) = (c : Int) then { st with i := G.skip s st.i + 1 } else { st with i := G.skip s st.i + 1, err := 2, place := G.skip s st.i }
set_option maxRecDepth 100000 in
set_option maxHeartbeats 1000000 in
theorem want_any (w : World) (b : Nat) (s : ByteArray) (S : Nat → Prop) (st : St) (c : Nat) (hR : Rd w b s S st) (hs : s.size ≤ 2000) (hi : st.i ≤ s.size) (h0 : st.err = 0) :
    Calls Tryz.prog 112 #[.pointer (some ⟨b, 0, none⟩), .int .i64 (c : Int)] w fun e w' => e = .returned (.tuple #[]) ∧ Evo w S w' S ∧ Rd w' b s S (wantSt s st c) := by
  obtain ⟨hSb, _⟩ := hR.inS
  have hsk := G.skip_le s st.i hi
  have hsee : seeV s { st with i := G.skip s st.i } = G.pk s (G.skip s st.i) := seeV_ok (st := { st with i := G.skip s st.i }) h0
  by_cases hc : G.pk s (G.skip s st.i) = (c : Int)
  · have HW : Hid (wantSt s st c = { st with i := G.skip s st.i + 1 }) := by show wantSt s st c = _; rw [wantSt, if_pos hc]
    rw [hc] at hsee
    clear hc
    go_enter Tryz.func112, Tryz.ntmps112
    go_wp2_with (first
      | (go_at_call 80; refine (skip_any _ b s S st hR hs hi h0).mono ?_; rintro e w1 ⟨rfl, hR1, hE1⟩; obtain ⟨c0, c1, c2, c3, c4, fr⟩ := hR1.reads)
      | (go_at_call 107; refine (see_any _ b s S _ hR1 hs (by show G.skip s st.i ≤ _; omega)).mono ?_; rw [hsee]; rintro e w2 ⟨rfl, n2, rfl⟩))
    go_end0
    refine ⟨rfl, (hE1.drewN _).set hSb (.inl hSb) _ _, ?_⟩
    rw [HW.out]
    exact (hR1.drewN _).inc
  · have HW : Hid (wantSt s st c = { st with i := G.skip s st.i + 1, err := 2, place := G.skip s st.i }) := by show wantSt s st c = _; rw [wantSt, if_neg hc]
    have hne : ((G.pk s (G.skip s st.i)) != (c : Int)) = true := by simpa using hc
    have hfa : failed { st with i := G.skip s st.i } 2 (G.skip s st.i) = { st with i := G.skip s st.i, err := 2, place := G.skip s st.i } := by rw [failed, if_pos h0]
    have HF : Hid _ := hfa
    clear hfa hc
    go_enter Tryz.func112, Tryz.ntmps112
    go_wp2_with (first
      | (go_at_call 80; refine (skip_any _ b s S st hR hs hi h0).mono ?_; rintro e w1 ⟨rfl, hR1, hE1⟩; obtain ⟨c0, c1, c2, c3, c4, fr⟩ := hR1.reads)
      | (go_at_call 107; refine (see_any _ b s S _ hR1 hs (by show G.skip s st.i ≤ _; omega)).mono ?_; rw [hsee]; rintro e w2 ⟨rfl, n2, rfl⟩)
      | (go_at_call 110; refine (fail_any _ b s S _ 2 (G.skip s st.i) (hR1.drewN _)).mono ?_; rw [HF.out]; rintro e w3 ⟨rfl, hR3, hE3⟩; clear c0 c1 c2 c3 c4 fr; obtain ⟨c0, c1, c2, c3, c4, fr⟩ := hR3.reads))
    go_end0
    refine ⟨rfl, ((hE1.drewN _).trans hE3).set hSb (.inl hSb) _ _, ?_⟩
    rw [HW.out]
    exact hR3.inc
end Rf
end Go.Proofs.YtpgcidpghmoibaaGreatDoor
