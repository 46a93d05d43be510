/-
  THE REFERENCE's RULES: the walk of repeated: what a repetition repeats, and how. Conditions: the table of nodes is well made; bounds on how many there are; the node is a repetition.
  THE REFERENCE's READER: the walk of hex: four digits as a number. Condition: the string has four bytes.
  THE REFERENCE's WALKS: tail and Next of package seamref answer the model's own decoder. Condition: the place lies in the text.
  THE REFERENCE's READER: the walks of escape, char: a char of a quote or a set as the form has it, or the error at its place. Conditions: the source has at most 2000 bytes; there was no error ahead.
  THE REFERENCE's READER: the walks of escape, char: a char of a quote or a set as the form has it, or the error at its place. Conditions: the source has at most 2000 bytes; there was no error ahead.
  THE REFERENCE's READER: the walks of escape, char: a char of a quote or a set as the form has it, or the error at its place. Conditions: the source has at most 2000 bytes; there was no error ahead.
  THE REFERENCE's READER: the walks of escape, char: a char of a quote or a set as the form has it, or the error at its place. Conditions: the source has at most 2000 bytes; there was no error ahead.
  THE REFERENCE's READER: the walks of escape, char: a char of a quote or a set as the form has it, or the error at its place. Conditions: the source has at most 2000 bytes; there was no error ahead.
-/
import Derived.Test.YtpgcidpghmoibaaGreatDoorJ05
import Derived.Test.YtpgcidpghmoibaaGreatDoorJ03
import Derived.Test.YtpgcidpghmoibaaGreatDoorRows
import Derived.Test.YtpgcidpghmoibaaGreatDoorJ01
import Derived.WalkKit
import Derived.WalkSpells
import Derived.WalkLawsBesides
import Derived.Handy
namespace Go.Proofs.YtpgcidpghmoibaaGreatDoor
namespace Rf
open Go.RowKit
open G (PNode)

set_option maxRecDepth 100000 in
set_option maxHeartbeats 2000000 in
theorem rep_any (w : World) (b : Nat) (T : List PNode) (Q : List Nat) (n : Nat) (x : PNode) (cs : Array Value) (vN vR : Value) (V : List (Value × Value)) (h : RoAt w b T Q cs vN vR V) (hT : G.WF T) (htl : T.length ≤ 100000) (hxT : T[n]? = some x) (hrp : G.reps x = true) :
    Calls Tryz.prog 137 #[.pointer (some ⟨b, 0, none⟩), .int .i64 (n : Int)] w fun e w' => e = .returned (.tuple #[.int .u8 ((G.rep T x.kind n).1 : Int), .int .i64 ((G.rep T x.kind n).2 : Int)]) ∧ Below w.heap.size w w' := by
  have hn : n < T.length := (List.getElem?_eq_some_iff.1 hxT).1
  have c5 := cell_blk h.blk 5 _ h.c5
  obtain ⟨g, cap, hv, _, _⟩ := h.oN.form (by omega)
  subst hv
  have hgl : g < w.heap.size := (h.oN.lt g rfl).2
  have hbl := lt_of_block h.blk
  obtain ⟨p, hp, hpn⟩ := G.reps_one hT hxT hrp
  have hpT : p < T.length := by omega
  obtain ⟨ra, rc, pa, pc, ⟨d0, d1, d2, d3, d4, op⟩⟩ := h.node hxT
  obtain ⟨gp, capp, hvp, _, _⟩ := op.form (by rw [hp]; simp)
  simp only [Value.slice.injEq] at hvp
  obtain ⟨rfl, _, rfl⟩ := hvp
  have cp : w.cell? ⟨gp, 0, none⟩ = some (.int .i64 (p : Int)) := own_cell' op 0 (by simp [ints, hp])
  have hlen2 : (0 : Int) < (x.parts.length : Int) := by rw [hp]; simp
  have hst : G.rep T x.kind n = G.rep T (G.mix x.kind x.kind) (G.bare T p) := G.rep_step hT hxT hrp hp
  rw [show G.mix x.kind x.kind = x.kind by simp [G.mix]] at hst
  have HST : Hid _ := hst
  have hble := G.bare_le hT p
  have hzT : T[G.bare T p]? = some (T[G.bare T p]'(by omega)) := List.getElem?_eq_getElem _
  generalize T[G.bare T p]'_ = z at hzT
  have hN := bare_any w b T Q p cs _ vR V h hT htl hpT
  clear hst hp
  go_enter Tryz.func137, Tryz.ntmps137
  go_wp2_with (go_at_call 136
               refine hN.mono ?_
               rintro e w1 ⟨rfl, hb1⟩
               have hRo1 := h.below hb1
               clear c5 d0 d1 d2 d3 d4 cp
               have c5 := cell_blk hRo1.blk 5 _ hRo1.c5
               obtain ⟨ra1, rc1, pa1, pc1, hnd1⟩ := h.node hzT
               obtain ⟨d0, d1, d2, d3, d4, op1⟩ := hnd1.below hb1 hgl)
  go_loopw [1, 6] (fun i kk wr => ∃ (m k : Nat) (y : PNode) (ra : Option Addr) (rc : Nat) (pa : Option Addr) (pc : Nat), i = .int .i64 (m : Int) ∧ kk = .int .u8 (k : Int) ∧ m < T.length ∧ T[m]? = some y ∧ NodeR w g m y ra rc pa pc ∧ G.rep T k m = G.rep T x.kind n ∧ wr.heap[w1.heap.size]? = some (boxOf y (.slice ra y.ranges.length rc, .slice pa y.parts.length pc)) ∧ Below w1.heap.size w1 wr)
    (fun i _ _ => (intOf i).toNat)
  case atStart => exact ⟨_, x.kind, z, ra1, rc1, pa1, pc1, rfl, rfl, by omega, hzT, hnd1, HST.out.symm, heap_alloc_new w1 _, (Below.refl _ _).alloc (Nat.le_refl _) _⟩
  case round =>
    clear d0 d1 d2 d3 d4 c5
    obtain ⟨m, k, y, ra, rc, pa, pc, rfl, rfl, hm, hym, hnd, hba, hbox, hbw1⟩ := hrel
    have HB : Hid (G.rep T k m = G.rep T x.kind n) := hba
    clear hba
    have hsz1 := hb1.size
    have hbw : Below w.heap.size w wr := hb1.trans (hbw1.mono hsz1)
    have hRo := h.below hbw
    have c5 := cell_blk hRo.blk 5 _ hRo.c5
    have hlb := lt_of_block hbox
    have hbx : b ≠ w1.heap.size := by omega
    have hgx : g ≠ w1.heap.size := by omega
    have cb0 := cell_blk hbox 0 (.int .u8 (y.kind : Int)) rfl
    have cb1 := cell_blk hbox 1 (.slice ra y.ranges.length rc) rfl
    have cb2 := cell_blk hbox 2 (.bool y.other) rfl
    have cb3 := cell_blk hbox 3 (.slice pa y.parts.length pc) rfl
    have cb4 := cell_blk hbox 4 (.int .i64 (y.size : Int)) rfl
    cases hlo : G.reps y with
    | true =>
      obtain ⟨q, hq, hqm⟩ := G.reps_one hT hym hlo
      have hqT : q < T.length := by omega
      have hble2 := G.bare_le hT q
      have huT : T[G.bare T q]? = some (T[G.bare T q]'(by omega)) := List.getElem?_eq_getElem _
      generalize T[G.bare T q]'_ = u at huT
      have hop := (hnd.below hbw hgl).op
      obtain ⟨gq, capq, hvq, _, _⟩ := hop.form (by rw [hq]; simp)
      simp only [Value.slice.injEq] at hvq
      obtain ⟨rfl, _, rfl⟩ := hvq
      have cq : wr.cell? ⟨gq, 0, none⟩ = some (.int .i64 (q : Int)) := own_cell' hop 0 (by simp [ints, hq])
      have hlen3 : (0 : Int) < (y.parts.length : Int) := by rw [hq]; simp
      have HS : Hid (G.rep T (G.mix k y.kind) (G.bare T q) = G.rep T x.kind n) := (G.rep_step hT hym hlo hq).symm.trans HB.out
      have hN2 := bare_any wr b T Q q cs _ vR V hRo hT htl hqT
      have hkk : ((y.kind : Int) == 42) = true ∨ (((y.kind : Int) == 42) = false ∧ ((y.kind : Int) == 43) = true) ∨ (((y.kind : Int) == 42) = false ∧ ((y.kind : Int) == 43) = false ∧ ((y.kind : Int) == 63) = true) := by
        simp only [G.reps, Bool.or_eq_true, decide_eq_true_eq] at hlo
        by_cases h1 : y.kind = 42
        · exact .inl (by simp; omega)
        · by_cases h2 : y.kind = 43
          · exact .inr (.inl ⟨by simp; omega, by simp; omega⟩)
          · exact .inr (.inr ⟨by simp; omega, by simp; omega, by simp; omega⟩)
      have hmx : (((y.kind : Int) != (k : Int)) = true ∧ Hid (G.mix k y.kind = 42)) ∨ (((y.kind : Int) != (k : Int)) = false ∧ Hid (G.mix k y.kind = k)) := by
        by_cases h1 : y.kind = k
        · exact .inr ⟨by simp; omega, by show G.mix k y.kind = k; simp [G.mix, h1]⟩
        · exact .inl ⟨by simp; omega, by show G.mix k y.kind = 42; simp [G.mix, h1]⟩
      obtain ⟨ra2, rc2, pa2, pc2, hnd2⟩ := h.node huT
      have HBX : Hid _ := hbox
      clear hq hlo hbox
      rcases hmx with ⟨hm1, hm2⟩ | ⟨hm1, hm2⟩
      all_goals
        rcases hkk with hk1 | ⟨hk1, hk2⟩ | ⟨hk1, hk2, hk3⟩
      all_goals
        go_wp2_with (go_at_call 136
                     refine hN2.mono ?_
                     rintro e w2 ⟨rfl, hb2⟩
                     have hbw2 := hbw.trans (hb2.mono (by have := hbw.size; omega))
                     have hbox2 : w2.heap[w1.heap.size]? = _ := (hb2.block w1.heap.size hlb).trans HBX.out
                     have hRo2 := h.below hbw2
                     clear c5 cb0 cb1 cb2 cb3 cb4 cq
                     have c5 := cell_blk hRo2.blk 5 _ hRo2.c5
                     obtain ⟨d0, d1, d2, d3, d4, _⟩ := hnd2.below hbw2 hgl
                     have cb0 := cell_blk hbox2 0 (.int .u8 (y.kind : Int)) rfl
                     have cb1 := cell_blk hbox2 1 (.slice ra y.ranges.length rc) rfl
                     have cb2 := cell_blk hbox2 2 (.bool y.other) rfl
                     have cb3 := cell_blk hbox2 3 (.slice (some ⟨gq, 0, none⟩) y.parts.length pc) rfl
                     have cb4 := cell_blk hbox2 4 (.int .i64 (y.size : Int)) rfl
                     have fb := fun o => free_blk hbox2 o
                     have HB2 : Hid _ := And.intro hbox2 (hbw1.trans (hb2.mono (by have := hbw1.size; omega)))
                     clear hbox2)
        go_roundw
        case rel => exact ⟨_, _, u, ra2, rc2, pa2, pc2, rfl, rfl, by omega, huT, hnd2, by have := HS.out; rw [hm2.out] at this; exact this, box_set HB2.out.1 _ _ _ _ _, below_box HB2.out.2 _ _ _ _ _⟩
        case measure => simp [intOf]; omega
    | false =>
      have HE : Hid (G.rep T x.kind n = (k, m)) := HB.out.symm.trans (G.rep_end hym hlo)
      have hcs : ((y.kind : Int) == 42) = false ∧ ((y.kind : Int) == 43) = false ∧ ((y.kind : Int) == 63) = false := by
        simp [G.reps] at hlo
        exact ⟨by simp; omega, by simp; omega, by simp; omega⟩
      obtain ⟨h1, h2, h3⟩ := hcs
      clear hlo
      go_wp2
      go_ret2
      exact ⟨by rw [HE.out]; rfl, hbw⟩

end Rf
end Go.Proofs.YtpgcidpghmoibaaGreatDoor

namespace Go.Proofs.YtpgcidpghmoibaaGreatDoor
namespace Rf
open Go.RowKit
open G (PNode)

def hx (t : ByteArray) (i : Nat) : Nat → Nat
  | 0 => 0
  | k + 1 => 16 * hx t i k + G.dig (U.at' t (i + k))
theorem hx_four (t : ByteArray) (i : Nat) : hx t i 4 = G.hexv t i := by
  simp only [hx, G.hexv, Nat.add_zero]
  omega
theorem hexs_iff (t : ByteArray) (i : Nat) : G.hexs t i = true ↔ ∀ m, m < 4 → G.dig (U.at' t (i + m)) < 16 := by
  simp only [G.hexs, Bool.and_eq_true, decide_eq_true_eq]
  constructor
  · rintro ⟨⟨⟨h0, h1⟩, h2⟩, h3⟩ m hm
    match m, hm with
    | 0, _ => exact h0
    | 1, _ => exact h1
    | 2, _ => exact h2
    | 3, _ => exact h3
  · intro h
    exact ⟨⟨⟨h 0 (by omega), h 1 (by omega)⟩, h 2 (by omega)⟩, h 3 (by omega)⟩
theorem hx_lt (t : ByteArray) (i : Nat) : ∀ k, (∀ m, m < k → G.dig (U.at' t (i + m)) < 16) → hx t i k < 16 ^ k
  | 0, _ => by simp [hx]
  | k + 1, h => by
    have h1 := hx_lt t i k (fun m hm => h m (by omega))
    have h2 := h k (by omega)
    simp only [hx, Nat.pow_succ]
    omega

def hexV (t : ByteArray) : Int := if G.hexs t 0 = true then (G.hexv t 0 : Int) else -1

set_option maxRecDepth 100000 in
set_option maxHeartbeats 1000000 in
theorem hex_any (t : ByteArray) (w : World) (ht : t.size = 4) :
    Calls Tryz.prog 172 #[.string t] w fun e w' => e = .returned (.int .i64 (hexV t)) ∧ w' = w := by
  go_enter Tryz.func172, Tryz.ntmps172
  go_wp2
  go_loop [3, 4] (fun n i => ∃ k : Nat, k ≤ 4 ∧ i = .int .i64 k ∧ n = .int .i64 (hx t 0 k) ∧ ∀ m, m < k → G.dig (U.at' t (0 + m)) < 16) (fun _ i => 4 - (intOf i).toNat)
  case atStart => exact ⟨0, by omega, rfl, rfl, by omega⟩
  case round =>
    obtain ⟨k, hk, rfl, rfl, hall⟩ := hrel
    have hlt16 := hx_lt t 0 k hall
    have hp : (16 : Nat) ^ k ≤ 16 ^ 4 := Nat.pow_le_pow_right (by omega) hk
    have hb : hx t 0 k ≤ 65536 := by omega
    have hall' : Hid (∀ m, m < k → G.dig (U.at' t (0 + m)) < 16) := hall
    clear hall hlt16 hp
    by_cases hlt : k < 4
    · have hl : k < t.size := by omega
      have hg := U.at_get t k hl
      have hc := U.at_lt t k
      rw [← hg] at hc
      have HG : Hid ((t[k]'hl).toNat = U.at' t k) := hg
      clear hg
      have step : G.dig (t[k]'hl).toNat < 16 → ∀ m, m < k + 1 → G.dig (U.at' t (0 + m)) < 16 := by
        intro h m hm
        by_cases e : m = k
        · subst e; rw [Nat.zero_add, ← HG.out]; exact h
        · exact hall'.out m (by omega)
      have val : hx t 0 (k + 1) = 16 * hx t 0 k + G.dig (t[k]'hl).toNat := by
        rw [hx, Nat.zero_add, HG.out]
      have HV : Hid _ := And.intro step val
      clear step val
      generalize hcc : (t[k]'hl).toNat = c at hc HV
      by_cases h1 : 48 ≤ c ∧ c ≤ 57
      · have hd : G.dig c = c - 48 := by simp [G.dig, h1]
        go_wp2
        all_goals
          go_round
          case rel => exact ⟨k + 1, by omega, by go_num, by rw [HV.out.2, hd]; go_num, HV.out.1 (by omega)⟩
          case measure => simp [intOf]; omega
      by_cases h2 : 97 ≤ c ∧ c ≤ 102
      · have hd : G.dig c = c - 87 := by simp [G.dig, h1, h2]
        go_wp2
        all_goals
          go_round
          case rel => exact ⟨k + 1, by omega, by go_num, by rw [HV.out.2, hd]; go_num, HV.out.1 (by omega)⟩
          case measure => simp [intOf]; omega
      by_cases h3 : 65 ≤ c ∧ c ≤ 70
      · have hd : G.dig c = c - 55 := by simp [G.dig, h1, h2, h3]
        go_wp2
        all_goals
          go_round
          case rel => exact ⟨k + 1, by omega, by go_num, by rw [HV.out.2, hd]; go_num, HV.out.1 (by omega)⟩
          case measure => simp [intOf]; omega
      · have hd : G.dig c = 16 := by simp [G.dig, h1, h2, h3]
        have HF : Hid (hexV t = -1) := by
          show hexV t = -1
          unfold hexV
          rw [if_neg]
          intro h
          have := (hexs_iff t 0).1 h k hlt
          rw [Nat.zero_add, ← HG.out, hcc, hd] at this
          omega
        go_wp2
        all_goals
          go_ret
          exact ⟨ret_int HF.out.symm, rfl⟩
    · obtain rfl : k = 4 := by omega
      have HF : Hid (hexV t = (hx t 0 4 : Int)) := by
        show hexV t = _
        unfold hexV
        rw [if_pos ((hexs_iff t 0).2 hall'.out), hx_four]
      go_wp2
      go_ret
      exact ⟨ret_int HF.out.symm, rfl⟩

theorem at_extract (s : ByteArray) (a c k : Nat) (h : a + k < c) (hc : c ≤ s.size) : U.at' (s.extract a c) k = U.at' s (a + k) := by
  have hk : k < (s.extract a c).size := by rw [ByteArray.size_extract]; omega
  rw [← U.at_get _ _ hk, ← U.at_get s (a + k) (by omega), ByteArray.getElem_extract]
theorem hexV_extract (s : ByteArray) (a : Nat) (h : a + 4 ≤ s.size) : hexV (s.extract a (a + 4)) = if G.hexs s a = true then (G.hexv s a : Int) else -1 := by
  unfold hexV G.hexs G.hexv
  rw [at_extract s a _ 0 (by omega) h, at_extract s a _ (0 + 1) (by omega) h, at_extract s a _ (0 + 2) (by omega) h, at_extract s a _ (0 + 3) (by omega) h]
  simp only [Nat.add_zero, Nat.zero_add]

end Rf
end Go.Proofs.YtpgcidpghmoibaaGreatDoor

namespace Go.Proofs.YtpgcidpghmoibaaGreatDoor
open Go.RowKit

theorem ret_bool {a b : Bool} (h : a = b) : Ending.returned (.bool a) = .returned (.bool b) := by rw [h]

set_option maxRecDepth 100000 in
set_option maxHeartbeats 400000 in
theorem tail_any (s : ByteArray) (i : Nat) (w : World) (_hs : s.size ≤ 9223372036854775807) (_hi : i ≤ 9223372036854775807) :
    Calls Tryz.prog 138 #[.string s, .int .i64 i] w fun e w' => e = .returned (.bool (U.tl s i)) ∧ w' = w := by
  by_cases hlt : i < s.size
  · have hb := U.at_lt s i
    have hg := U.at_get s i hlt
    have H : Hid ((s[i]'hlt).toNat = U.at' s i) := hg
    clear hg
    go_enter Tryz.func138, Tryz.ntmps138
    go_wp2
    · have h1 : (128 : Int) ≤ ((s[i]'hlt).toNat : Int) := by assumption
      rw [H.out] at h1
      go_ret
      refine ⟨ret_bool ?_, rfl⟩
      rw [H.out]
      simp only [U.tl, hlt, decide_true, Bool.true_and]
      rw [decide_eq_true (by omega : 128 ≤ U.at' s i), Bool.true_and]
      exact decide_eq_decide.2 (by omega)
    · have h1 : ((s[i]'hlt).toNat : Int) < 128 := by assumption
      rw [H.out] at h1
      go_ret
      refine ⟨ret_bool ?_, rfl⟩
      simp only [U.tl, hlt, decide_true, Bool.true_and]
      rw [decide_eq_false (by omega : ¬ 128 ≤ U.at' s i), Bool.false_and]
  · go_enter Tryz.func138, Tryz.ntmps138
    go_wp2
    go_ret
    refine ⟨ret_bool ?_, rfl⟩
    simp [U.tl, hlt]

/-- What Next says besides: is it a rune that is written well? -/
def wellAt (s : ByteArray) (i : Nat) : Bool :=
  if U.at' s i < 128 then true
  else if U.at' s i < 192 ∨ 248 ≤ U.at' s i then false
  else decide ((Utf8.decode s i).2 ≠ 1)

set_option maxRecDepth 100000 in
set_option maxHeartbeats 400000 in
theorem next_one (s : ByteArray) (i : Nat) (w : World) (_hs : s.size ≤ 1000000) (hlt : i < s.size) (hc : U.at' s i < 128) :
    Calls Tryz.prog 118 #[.string s, .int .i64 i] w fun e w' => e = .returned (.tuple #[.int .i64 (Utf8.decode s i).1, .int .i64 (Utf8.decode s i).2, .bool (wellAt s i)]) ∧ w' = w := by
  have hg := U.at_get s i hlt
  have hd := U.dec1 s i hc
  have hw : wellAt s i = true := by simp [wellAt, hc]
  rw [hd, hw, ← hg]
  have hc' : ((s[i]'hlt).toNat : Int) < 128 := by omega
  clear hd hw hg hc
  go_enter Tryz.func118, Tryz.ntmps118
  go_wp2
  go_ret3
  exact ⟨rfl, rfl⟩


set_option maxRecDepth 100000 in
set_option maxHeartbeats 400000 in
theorem next_bad (s : ByteArray) (i : Nat) (w : World) (_hs : s.size ≤ 1000000) (hlt : i < s.size) (h1 : 128 ≤ U.at' s i) (h2 : U.at' s i < 192 ∨ 248 ≤ U.at' s i) :
    Calls Tryz.prog 118 #[.string s, .int .i64 i] w fun e w' => e = .returned (.tuple #[.int .i64 (Utf8.decode s i).1, .int .i64 (Utf8.decode s i).2, .bool (wellAt s i)]) ∧ w' = w := by
  have hg := U.at_get s i hlt
  have hd := U.decBad s i h1 h2
  have hw : wellAt s i = false := by simp [wellAt, Nat.not_lt.2 h1, h2]
  have h3 := U.at_lt s i
  rw [hd, hw]
  rcases h2 with h2 | h2
  · have c1 : (128 : Int) ≤ ((s[i]'hlt).toNat : Int) := by omega
    have c2 : ((s[i]'hlt).toNat : Int) < 192 := by omega
    clear hd hw hg h1 h2 h3
    go_enter Tryz.func118, Tryz.ntmps118
    go_wp2
    go_ret3
    exact ⟨rfl, rfl⟩
  · have c1 : (248 : Int) ≤ ((s[i]'hlt).toNat : Int) := by omega
    have c2 : ((s[i]'hlt).toNat : Int) < 256 := by omega
    clear hd hw hg h1 h2 h3
    go_enter Tryz.func118, Tryz.ntmps118
    go_wp2
    go_ret3
    exact ⟨rfl, rfl⟩

theorem tail_at (s : ByteArray) (k : Nat) (j : Int) (w : World) (hj : j = (k : Int)) (hs : s.size ≤ 1000000) (hi : k ≤ 1000010) :
    Calls Tryz.prog 138 #[.string s, .int .i64 j] w fun e w' => e = .returned (.bool (U.tl s k)) ∧ w' = w := by
  subst hj
  exact tail_any s k w (by omega) (by omega)

theorem well_of {s : ByteArray} {i : Nat} (h1 : 192 ≤ U.at' s i) (h2 : U.at' s i < 248) : wellAt s i = decide ((Utf8.decode s i).2 ≠ 1) := by
  unfold wellAt
  rw [if_neg (by omega), if_neg (by omega)]

theorem ret3 {a b a' b' : Int} {c c' : Bool} (h1 : a = a') (h2 : b = b') (h3 : c = c') : Ending.returned (.tuple #[.int .i64 a, .int .i64 b, .bool c]) = .returned (.tuple #[.int .i64 a', .int .i64 b', .bool c']) := by
  rw [h1, h2, h3]

theorem Hid.intro {p : Prop} (h : p) : Hid p := h

/-- The end of a walk that found no rune. -/
theorem none3 {s : ByteArray} {i : Nat} (h1 : 192 ≤ U.at' s i) (h2 : U.at' s i < 248) (hd : Utf8.decode s i = (65533, 1)) :
    Ending.returned (.tuple #[.int .i64 65533, .int .i64 1, .bool false]) = .returned (.tuple #[.int .i64 (Utf8.decode s i).1, .int .i64 (Utf8.decode s i).2, .bool (wellAt s i)]) := by
  rw [well_of h1 h2, hd]; rfl

/-- The end of a walk that found one. -/
theorem some3 {s : ByteArray} {i : Nat} {v n : Nat} {x y : Int} (h1 : 192 ≤ U.at' s i) (h2 : U.at' s i < 248) (hd : Utf8.decode s i = (v, n)) (hn : n ≠ 1) (hx : x = v) (hy : y = n) :
    Ending.returned (.tuple #[.int .i64 x, .int .i64 y, .bool true]) = .returned (.tuple #[.int .i64 (Utf8.decode s i).1, .int .i64 (Utf8.decode s i).2, .bool (wellAt s i)]) := by
  rw [well_of h1 h2, hd, hx, hy]; simp [hn]

set_option maxRecDepth 100000 in
set_option maxHeartbeats 1000000 in
theorem next_2_no1 (s : ByteArray) (i : Nat) (w : World) (hs : s.size ≤ 1000000) (hlt : i < s.size) (h1 : 192 ≤ U.at' s i) (h2 : U.at' s i < 224) (t1 : U.tl s (i + 1) = false) :
    Calls Tryz.prog 118 #[.string s, .int .i64 i] w fun e w' => e = .returned (.tuple #[.int .i64 (Utf8.decode s i).1, .int .i64 (Utf8.decode s i).2, .bool (wellAt s i)]) ∧ w' = w := by
  have hg := U.at_get s i hlt
  have hd : Utf8.decode s i = (65533, 1) := by rw [U.dec2 s i h1 h2]; simp [t1]
  have E := Hid.intro (none3 (by omega) (by omega) hd)
  have c1 : (192 : Int) ≤ ((s[i]'hlt).toNat : Int) := by omega
  have c2 : ((s[i]'hlt).toNat : Int) < 224 := by omega
  clear hd hg h1 h2
  go_enter Tryz.func118, Tryz.ntmps118
  go_wp2
  refine wp_loop_rounds 1 ?_
  rw [rounds_succ]
  go_wp2_with (go_at_call 138; refine (tail_at s (i + 1) _ _ (by omega) hs (by omega)).mono ?_; rintro e w' ⟨rfl, rfl⟩)
  go_ret3
  exact ⟨E.out, rfl⟩

set_option maxRecDepth 100000 in
set_option maxHeartbeats 1000000 in
theorem next_2_yes (s : ByteArray) (i : Nat) (w : World) (hs : s.size ≤ 1000000) (hlt : i < s.size) (h1 : 192 ≤ U.at' s i) (h2 : U.at' s i < 224) (t1 : U.tl s (i + 1) = true) :
    Calls Tryz.prog 118 #[.string s, .int .i64 i] w fun e w' => e = .returned (.tuple #[.int .i64 (Utf8.decode s i).1, .int .i64 (Utf8.decode s i).2, .bool (wellAt s i)]) ∧ w' = w := by
  have hg := U.at_get s i hlt
  have hd := U.dec2 s i h1 h2
  have c1 : (192 : Int) ≤ ((s[i]'hlt).toNat : Int) := by omega
  have c2 : ((s[i]'hlt).toNat : Int) < 224 := by omega
  have q1 := (U.tl_iff s (i + 1)).1 t1
  have g1 := U.at_get s (i + 1) q1.1
  have l1 := q1.1
  have c1a : (128 : Int) ≤ ((s[i + 1]'l1).toNat : Int) := by omega
  have c1b : ((s[i + 1]'l1).toNat : Int) < 192 := by omega
  have hv : ((64 * (U.at' s i - 192) + U.at' s (i + 1) - 128 : Nat) : Int) = 64 * (((s[i]'hlt).toNat : Int) - 192) + ((s[i + 1]'l1).toNat : Int) - 128 := by omega
  generalize hV : 64 * (U.at' s i - 192) + U.at' s (i + 1) - 128 = V at *
  by_cases hok : 128 ≤ V
  · have hd' : Utf8.decode s i = (V, 2) := by rw [hd, if_pos ⟨t1, hok⟩]
    have E := Hid.intro (some3 (x := 64 * (((s[i]'hlt).toNat : Int) - 192) + ((s[i + 1]'l1).toNat : Int) - 128) (y := 2) (by omega) (by omega) hd' (by decide) hv.symm (by rfl))
    have d1 : (128 : Int) ≤ 64 * (((s[i]'hlt).toNat : Int) - 192) + ((s[i + 1]'l1).toNat : Int) - 128 := by omega
    have d3 : 64 * (((s[i]'hlt).toNat : Int) - 192) + ((s[i + 1]'l1).toNat : Int) - 128 ≤ 1114111 := by omega
    have d2 : 64 * (((s[i]'hlt).toNat : Int) - 192) + ((s[i + 1]'l1).toNat : Int) - 128 < 55296 := by omega
    clear hok hV hv
    clear hd hd' hg h1 h2 g1 q1
    go_enter Tryz.func118, Tryz.ntmps118
    go_wp2
    refine wp_loop_rounds 2 ?_
    rw [rounds_succ]
    go_wp2_with (go_at_call 138; refine (tail_at s (i + 1) _ _ (by omega) hs (by omega)).mono ?_; rintro e w' ⟨rfl, rfl⟩)
    rw [rounds_succ]
    go_wp2
    go_ret3
    exact ⟨E.out, rfl⟩
  · have hd' : Utf8.decode s i = (65533, 1) := by rw [hd, if_neg (fun h => hok h.2)]
    have E := Hid.intro (none3 (by omega) (by omega) hd')
    have d1 : 64 * (((s[i]'hlt).toNat : Int) - 192) + ((s[i + 1]'l1).toNat : Int) - 128 < 128 := by omega
    clear hok hV hv
    clear hd hd' hg h1 h2 g1 q1
    go_enter Tryz.func118, Tryz.ntmps118
    go_wp2
    refine wp_loop_rounds 2 ?_
    rw [rounds_succ]
    go_wp2_with (go_at_call 138; refine (tail_at s (i + 1) _ _ (by omega) hs (by omega)).mono ?_; rintro e w' ⟨rfl, rfl⟩)
    rw [rounds_succ]
    go_wp2
    go_ret3
    exact ⟨E.out, rfl⟩

set_option maxRecDepth 100000 in
set_option maxHeartbeats 1000000 in
theorem next_3_no1 (s : ByteArray) (i : Nat) (w : World) (hs : s.size ≤ 1000000) (hlt : i < s.size) (h1 : 224 ≤ U.at' s i) (h2 : U.at' s i < 240) (t1 : U.tl s (i + 1) = false) :
    Calls Tryz.prog 118 #[.string s, .int .i64 i] w fun e w' => e = .returned (.tuple #[.int .i64 (Utf8.decode s i).1, .int .i64 (Utf8.decode s i).2, .bool (wellAt s i)]) ∧ w' = w := by
  have hg := U.at_get s i hlt
  have hd : Utf8.decode s i = (65533, 1) := by rw [U.dec3 s i h1 h2]; simp [t1]
  have E := Hid.intro (none3 (by omega) (by omega) hd)
  have c1 : (224 : Int) ≤ ((s[i]'hlt).toNat : Int) := by omega
  have c2 : ((s[i]'hlt).toNat : Int) < 240 := by omega
  clear hd hg h1 h2
  go_enter Tryz.func118, Tryz.ntmps118
  go_wp2
  refine wp_loop_rounds 1 ?_
  rw [rounds_succ]
  go_wp2_with (go_at_call 138; refine (tail_at s (i + 1) _ _ (by omega) hs (by omega)).mono ?_; rintro e w' ⟨rfl, rfl⟩)
  go_ret3
  exact ⟨E.out, rfl⟩

set_option maxRecDepth 100000 in
set_option maxHeartbeats 1000000 in
theorem next_3_no2 (s : ByteArray) (i : Nat) (w : World) (hs : s.size ≤ 1000000) (hlt : i < s.size) (h1 : 224 ≤ U.at' s i) (h2 : U.at' s i < 240) (t1 : U.tl s (i + 1) = true) (t2 : U.tl s (i + 2) = false) :
    Calls Tryz.prog 118 #[.string s, .int .i64 i] w fun e w' => e = .returned (.tuple #[.int .i64 (Utf8.decode s i).1, .int .i64 (Utf8.decode s i).2, .bool (wellAt s i)]) ∧ w' = w := by
  have hg := U.at_get s i hlt
  have hd : Utf8.decode s i = (65533, 1) := by rw [U.dec3 s i h1 h2]; simp [t2]
  have E := Hid.intro (none3 (by omega) (by omega) hd)
  have c1 : (224 : Int) ≤ ((s[i]'hlt).toNat : Int) := by omega
  have c2 : ((s[i]'hlt).toNat : Int) < 240 := by omega
  have q1 := (U.tl_iff s (i + 1)).1 t1
  have g1 := U.at_get s (i + 1) q1.1
  have l1 := q1.1
  have c1a : (128 : Int) ≤ ((s[i + 1]'l1).toNat : Int) := by omega
  have c1b : ((s[i + 1]'l1).toNat : Int) < 192 := by omega
  clear g1 q1
  clear hd hg h1 h2
  go_enter Tryz.func118, Tryz.ntmps118
  go_wp2
  refine wp_loop_rounds 2 ?_
  rw [rounds_succ]
  go_wp2_with (go_at_call 138; refine (tail_at s (i + 1) _ _ (by omega) hs (by omega)).mono ?_; rintro e w' ⟨rfl, rfl⟩)
  rw [rounds_succ]
  go_wp2_with (go_at_call 138; refine (tail_at s (i + 2) _ _ (by omega) hs (by omega)).mono ?_; rintro e w' ⟨rfl, rfl⟩)
  go_ret3
  exact ⟨E.out, rfl⟩

set_option maxRecDepth 100000 in
set_option maxHeartbeats 1000000 in
theorem next_3_yes (s : ByteArray) (i : Nat) (w : World) (hs : s.size ≤ 1000000) (hlt : i < s.size) (h1 : 224 ≤ U.at' s i) (h2 : U.at' s i < 240) (t1 : U.tl s (i + 1) = true) (t2 : U.tl s (i + 2) = true) :
    Calls Tryz.prog 118 #[.string s, .int .i64 i] w fun e w' => e = .returned (.tuple #[.int .i64 (Utf8.decode s i).1, .int .i64 (Utf8.decode s i).2, .bool (wellAt s i)]) ∧ w' = w := by
  have hg := U.at_get s i hlt
  have hd := U.dec3 s i h1 h2
  have c1 : (224 : Int) ≤ ((s[i]'hlt).toNat : Int) := by omega
  have c2 : ((s[i]'hlt).toNat : Int) < 240 := by omega
  have q1 := (U.tl_iff s (i + 1)).1 t1
  have g1 := U.at_get s (i + 1) q1.1
  have l1 := q1.1
  have c1a : (128 : Int) ≤ ((s[i + 1]'l1).toNat : Int) := by omega
  have c1b : ((s[i + 1]'l1).toNat : Int) < 192 := by omega
  have q2 := (U.tl_iff s (i + 2)).1 t2
  have g2 := U.at_get s (i + 2) q2.1
  have l2 := q2.1
  have c2a : (128 : Int) ≤ ((s[i + 2]'l2).toNat : Int) := by omega
  have c2b : ((s[i + 2]'l2).toNat : Int) < 192 := by omega
  have hv : ((64 * (64 * (U.at' s i - 224) + U.at' s (i + 1) - 128) + U.at' s (i + 2) - 128 : Nat) : Int) = 64 * (64 * (((s[i]'hlt).toNat : Int) - 224) + ((s[i + 1]'l1).toNat : Int) - 128) + ((s[i + 2]'l2).toNat : Int) - 128 := by omega
  generalize hV : 64 * (64 * (U.at' s i - 224) + U.at' s (i + 1) - 128) + U.at' s (i + 2) - 128 = V at *
  by_cases hok : 2048 ≤ V ∧ (V < 55296 ∨ 57344 ≤ V)
  · have hd' : Utf8.decode s i = (V, 3) := by rw [hd, if_pos ⟨⟨t1, t2⟩, hok⟩]
    have E := Hid.intro (some3 (x := 64 * (64 * (((s[i]'hlt).toNat : Int) - 224) + ((s[i + 1]'l1).toNat : Int) - 128) + ((s[i + 2]'l2).toNat : Int) - 128) (y := 3) (by omega) (by omega) hd' (by decide) hv.symm (by rfl))
    rcases hok.2 with hlow | hlow
    all_goals
      have d1 : (2048 : Int) ≤ 64 * (64 * (((s[i]'hlt).toNat : Int) - 224) + ((s[i + 1]'l1).toNat : Int) - 128) + ((s[i + 2]'l2).toNat : Int) - 128 := by omega
      have d3 : 64 * (64 * (((s[i]'hlt).toNat : Int) - 224) + ((s[i + 1]'l1).toNat : Int) - 128) + ((s[i + 2]'l2).toNat : Int) - 128 ≤ 1114111 := by omega
    · have d2 : 64 * (64 * (((s[i]'hlt).toNat : Int) - 224) + ((s[i + 1]'l1).toNat : Int) - 128) + ((s[i + 2]'l2).toNat : Int) - 128 < 55296 := by omega
      clear hok hlow hV hv
      clear hd hd' hg h1 h2 g1 q1 g2 q2
      go_enter Tryz.func118, Tryz.ntmps118
      go_wp2
      refine wp_loop_rounds 3 ?_
      rw [rounds_succ]
      go_wp2_with (go_at_call 138; refine (tail_at s (i + 1) _ _ (by omega) hs (by omega)).mono ?_; rintro e w' ⟨rfl, rfl⟩)
      rw [rounds_succ]
      go_wp2_with (go_at_call 138; refine (tail_at s (i + 2) _ _ (by omega) hs (by omega)).mono ?_; rintro e w' ⟨rfl, rfl⟩)
      rw [rounds_succ]
      go_wp2
      go_ret3
      exact ⟨E.out, rfl⟩
    · have d2 : 57344 ≤ 64 * (64 * (((s[i]'hlt).toNat : Int) - 224) + ((s[i + 1]'l1).toNat : Int) - 128) + ((s[i + 2]'l2).toNat : Int) - 128 := by omega
      clear hok hlow hV hv
      clear hd hd' hg h1 h2 g1 q1 g2 q2
      go_enter Tryz.func118, Tryz.ntmps118
      go_wp2
      refine wp_loop_rounds 3 ?_
      rw [rounds_succ]
      go_wp2_with (go_at_call 138; refine (tail_at s (i + 1) _ _ (by omega) hs (by omega)).mono ?_; rintro e w' ⟨rfl, rfl⟩)
      rw [rounds_succ]
      go_wp2_with (go_at_call 138; refine (tail_at s (i + 2) _ _ (by omega) hs (by omega)).mono ?_; rintro e w' ⟨rfl, rfl⟩)
      rw [rounds_succ]
      go_wp2
      go_ret3
      exact ⟨E.out, rfl⟩
  · have hd' : Utf8.decode s i = (65533, 1) := by rw [hd, if_neg (fun h => hok h.2)]
    have E := Hid.intro (none3 (by omega) (by omega) hd')
    by_cases hlow : V < 2048
    · have d1 : 64 * (64 * (((s[i]'hlt).toNat : Int) - 224) + ((s[i + 1]'l1).toNat : Int) - 128) + ((s[i + 2]'l2).toNat : Int) - 128 < 2048 := by omega
      clear hok hlow hV hv
      clear hd hd' hg h1 h2 g1 q1 g2 q2
      go_enter Tryz.func118, Tryz.ntmps118
      go_wp2
      refine wp_loop_rounds 3 ?_
      rw [rounds_succ]
      go_wp2_with (go_at_call 138; refine (tail_at s (i + 1) _ _ (by omega) hs (by omega)).mono ?_; rintro e w' ⟨rfl, rfl⟩)
      rw [rounds_succ]
      go_wp2_with (go_at_call 138; refine (tail_at s (i + 2) _ _ (by omega) hs (by omega)).mono ?_; rintro e w' ⟨rfl, rfl⟩)
      rw [rounds_succ]
      go_wp2
      go_ret3
      exact ⟨E.out, rfl⟩
    · have d1 : (55296 : Int) ≤ 64 * (64 * (((s[i]'hlt).toNat : Int) - 224) + ((s[i + 1]'l1).toNat : Int) - 128) + ((s[i + 2]'l2).toNat : Int) - 128 := by omega
      have d2 : 64 * (64 * (((s[i]'hlt).toNat : Int) - 224) + ((s[i + 1]'l1).toNat : Int) - 128) + ((s[i + 2]'l2).toNat : Int) - 128 < 57344 := by omega
      clear hok hlow hV hv
      clear hd hd' hg h1 h2 g1 q1 g2 q2
      go_enter Tryz.func118, Tryz.ntmps118
      go_wp2
      refine wp_loop_rounds 3 ?_
      rw [rounds_succ]
      go_wp2_with (go_at_call 138; refine (tail_at s (i + 1) _ _ (by omega) hs (by omega)).mono ?_; rintro e w' ⟨rfl, rfl⟩)
      rw [rounds_succ]
      go_wp2_with (go_at_call 138; refine (tail_at s (i + 2) _ _ (by omega) hs (by omega)).mono ?_; rintro e w' ⟨rfl, rfl⟩)
      rw [rounds_succ]
      go_wp2
      go_ret3
      exact ⟨E.out, rfl⟩

set_option maxRecDepth 100000 in
set_option maxHeartbeats 1000000 in
theorem next_4_no1 (s : ByteArray) (i : Nat) (w : World) (hs : s.size ≤ 1000000) (hlt : i < s.size) (h1 : 240 ≤ U.at' s i) (h2 : U.at' s i < 248) (t1 : U.tl s (i + 1) = false) :
    Calls Tryz.prog 118 #[.string s, .int .i64 i] w fun e w' => e = .returned (.tuple #[.int .i64 (Utf8.decode s i).1, .int .i64 (Utf8.decode s i).2, .bool (wellAt s i)]) ∧ w' = w := by
  have hg := U.at_get s i hlt
  have hd : Utf8.decode s i = (65533, 1) := by rw [U.dec4 s i h1 h2]; simp [t1]
  have E := Hid.intro (none3 (by omega) (by omega) hd)
  have c1 : (240 : Int) ≤ ((s[i]'hlt).toNat : Int) := by omega
  have c2 : ((s[i]'hlt).toNat : Int) < 248 := by omega
  clear hd hg h1 h2
  go_enter Tryz.func118, Tryz.ntmps118
  go_wp2
  refine wp_loop_rounds 1 ?_
  rw [rounds_succ]
  go_wp2_with (go_at_call 138; refine (tail_at s (i + 1) _ _ (by omega) hs (by omega)).mono ?_; rintro e w' ⟨rfl, rfl⟩)
  go_ret3
  exact ⟨E.out, rfl⟩

set_option maxRecDepth 100000 in
set_option maxHeartbeats 1000000 in
theorem next_4_no2 (s : ByteArray) (i : Nat) (w : World) (hs : s.size ≤ 1000000) (hlt : i < s.size) (h1 : 240 ≤ U.at' s i) (h2 : U.at' s i < 248) (t1 : U.tl s (i + 1) = true) (t2 : U.tl s (i + 2) = false) :
    Calls Tryz.prog 118 #[.string s, .int .i64 i] w fun e w' => e = .returned (.tuple #[.int .i64 (Utf8.decode s i).1, .int .i64 (Utf8.decode s i).2, .bool (wellAt s i)]) ∧ w' = w := by
  have hg := U.at_get s i hlt
  have hd : Utf8.decode s i = (65533, 1) := by rw [U.dec4 s i h1 h2]; simp [t2]
  have E := Hid.intro (none3 (by omega) (by omega) hd)
  have c1 : (240 : Int) ≤ ((s[i]'hlt).toNat : Int) := by omega
  have c2 : ((s[i]'hlt).toNat : Int) < 248 := by omega
  have q1 := (U.tl_iff s (i + 1)).1 t1
  have g1 := U.at_get s (i + 1) q1.1
  have l1 := q1.1
  have c1a : (128 : Int) ≤ ((s[i + 1]'l1).toNat : Int) := by omega
  have c1b : ((s[i + 1]'l1).toNat : Int) < 192 := by omega
  clear g1 q1
  clear hd hg h1 h2
  go_enter Tryz.func118, Tryz.ntmps118
  go_wp2
  refine wp_loop_rounds 2 ?_
  rw [rounds_succ]
  go_wp2_with (go_at_call 138; refine (tail_at s (i + 1) _ _ (by omega) hs (by omega)).mono ?_; rintro e w' ⟨rfl, rfl⟩)
  rw [rounds_succ]
  go_wp2_with (go_at_call 138; refine (tail_at s (i + 2) _ _ (by omega) hs (by omega)).mono ?_; rintro e w' ⟨rfl, rfl⟩)
  go_ret3
  exact ⟨E.out, rfl⟩

set_option maxRecDepth 100000 in
set_option maxHeartbeats 1000000 in
theorem next_4_no3 (s : ByteArray) (i : Nat) (w : World) (hs : s.size ≤ 1000000) (hlt : i < s.size) (h1 : 240 ≤ U.at' s i) (h2 : U.at' s i < 248) (t1 : U.tl s (i + 1) = true) (t2 : U.tl s (i + 2) = true) (t3 : U.tl s (i + 3) = false) :
    Calls Tryz.prog 118 #[.string s, .int .i64 i] w fun e w' => e = .returned (.tuple #[.int .i64 (Utf8.decode s i).1, .int .i64 (Utf8.decode s i).2, .bool (wellAt s i)]) ∧ w' = w := by
  have hg := U.at_get s i hlt
  have hd : Utf8.decode s i = (65533, 1) := by rw [U.dec4 s i h1 h2]; simp [t3]
  have E := Hid.intro (none3 (by omega) (by omega) hd)
  have c1 : (240 : Int) ≤ ((s[i]'hlt).toNat : Int) := by omega
  have c2 : ((s[i]'hlt).toNat : Int) < 248 := by omega
  have q1 := (U.tl_iff s (i + 1)).1 t1
  have g1 := U.at_get s (i + 1) q1.1
  have l1 := q1.1
  have c1a : (128 : Int) ≤ ((s[i + 1]'l1).toNat : Int) := by omega
  have c1b : ((s[i + 1]'l1).toNat : Int) < 192 := by omega
  clear g1 q1
  have q2 := (U.tl_iff s (i + 2)).1 t2
  have g2 := U.at_get s (i + 2) q2.1
  have l2 := q2.1
  have c2a : (128 : Int) ≤ ((s[i + 2]'l2).toNat : Int) := by omega
  have c2b : ((s[i + 2]'l2).toNat : Int) < 192 := by omega
  clear g2 q2
  clear hd hg h1 h2
  go_enter Tryz.func118, Tryz.ntmps118
  go_wp2
  refine wp_loop_rounds 3 ?_
  rw [rounds_succ]
  go_wp2_with (go_at_call 138; refine (tail_at s (i + 1) _ _ (by omega) hs (by omega)).mono ?_; rintro e w' ⟨rfl, rfl⟩)
  rw [rounds_succ]
  go_wp2_with (go_at_call 138; refine (tail_at s (i + 2) _ _ (by omega) hs (by omega)).mono ?_; rintro e w' ⟨rfl, rfl⟩)
  rw [rounds_succ]
  go_wp2_with (go_at_call 138; refine (tail_at s (i + 3) _ _ (by omega) hs (by omega)).mono ?_; rintro e w' ⟨rfl, rfl⟩)
  go_ret3
  exact ⟨E.out, rfl⟩

set_option maxRecDepth 100000 in
set_option maxHeartbeats 1000000 in
theorem next_4_yes (s : ByteArray) (i : Nat) (w : World) (hs : s.size ≤ 1000000) (hlt : i < s.size) (h1 : 240 ≤ U.at' s i) (h2 : U.at' s i < 248) (t1 : U.tl s (i + 1) = true) (t2 : U.tl s (i + 2) = true) (t3 : U.tl s (i + 3) = true) :
    Calls Tryz.prog 118 #[.string s, .int .i64 i] w fun e w' => e = .returned (.tuple #[.int .i64 (Utf8.decode s i).1, .int .i64 (Utf8.decode s i).2, .bool (wellAt s i)]) ∧ w' = w := by
  have hg := U.at_get s i hlt
  have hd := U.dec4 s i h1 h2
  have c1 : (240 : Int) ≤ ((s[i]'hlt).toNat : Int) := by omega
  have c2 : ((s[i]'hlt).toNat : Int) < 248 := by omega
  have q1 := (U.tl_iff s (i + 1)).1 t1
  have g1 := U.at_get s (i + 1) q1.1
  have l1 := q1.1
  have c1a : (128 : Int) ≤ ((s[i + 1]'l1).toNat : Int) := by omega
  have c1b : ((s[i + 1]'l1).toNat : Int) < 192 := by omega
  have q2 := (U.tl_iff s (i + 2)).1 t2
  have g2 := U.at_get s (i + 2) q2.1
  have l2 := q2.1
  have c2a : (128 : Int) ≤ ((s[i + 2]'l2).toNat : Int) := by omega
  have c2b : ((s[i + 2]'l2).toNat : Int) < 192 := by omega
  have q3 := (U.tl_iff s (i + 3)).1 t3
  have g3 := U.at_get s (i + 3) q3.1
  have l3 := q3.1
  have c3a : (128 : Int) ≤ ((s[i + 3]'l3).toNat : Int) := by omega
  have c3b : ((s[i + 3]'l3).toNat : Int) < 192 := by omega
  have hv : ((64 * (64 * (64 * (U.at' s i - 240) + U.at' s (i + 1) - 128) + U.at' s (i + 2) - 128) + U.at' s (i + 3) - 128 : Nat) : Int) = 64 * (64 * (64 * (((s[i]'hlt).toNat : Int) - 240) + ((s[i + 1]'l1).toNat : Int) - 128) + ((s[i + 2]'l2).toNat : Int) - 128) + ((s[i + 3]'l3).toNat : Int) - 128 := by omega
  generalize hV : 64 * (64 * (64 * (U.at' s i - 240) + U.at' s (i + 1) - 128) + U.at' s (i + 2) - 128) + U.at' s (i + 3) - 128 = V at *
  by_cases hok : 65536 ≤ V ∧ V ≤ 1114111
  · have hd' : Utf8.decode s i = (V, 4) := by rw [hd, if_pos ⟨⟨t1, t2, t3⟩, hok⟩]
    have E := Hid.intro (some3 (x := 64 * (64 * (64 * (((s[i]'hlt).toNat : Int) - 240) + ((s[i + 1]'l1).toNat : Int) - 128) + ((s[i + 2]'l2).toNat : Int) - 128) + ((s[i + 3]'l3).toNat : Int) - 128) (y := 4) (by omega) (by omega) hd' (by decide) hv.symm (by rfl))
    have d1 : (65536 : Int) ≤ 64 * (64 * (64 * (((s[i]'hlt).toNat : Int) - 240) + ((s[i + 1]'l1).toNat : Int) - 128) + ((s[i + 2]'l2).toNat : Int) - 128) + ((s[i + 3]'l3).toNat : Int) - 128 := by omega
    have d3 : 64 * (64 * (64 * (((s[i]'hlt).toNat : Int) - 240) + ((s[i + 1]'l1).toNat : Int) - 128) + ((s[i + 2]'l2).toNat : Int) - 128) + ((s[i + 3]'l3).toNat : Int) - 128 ≤ 1114111 := by omega
    have d2 : 57344 ≤ 64 * (64 * (64 * (((s[i]'hlt).toNat : Int) - 240) + ((s[i + 1]'l1).toNat : Int) - 128) + ((s[i + 2]'l2).toNat : Int) - 128) + ((s[i + 3]'l3).toNat : Int) - 128 := by omega
    clear hok hV hv
    clear hd hd' hg h1 h2 g1 q1 g2 q2 g3 q3
    go_enter Tryz.func118, Tryz.ntmps118
    go_wp2
    refine wp_loop_rounds 4 ?_
    rw [rounds_succ]
    go_wp2_with (go_at_call 138; refine (tail_at s (i + 1) _ _ (by omega) hs (by omega)).mono ?_; rintro e w' ⟨rfl, rfl⟩)
    rw [rounds_succ]
    go_wp2_with (go_at_call 138; refine (tail_at s (i + 2) _ _ (by omega) hs (by omega)).mono ?_; rintro e w' ⟨rfl, rfl⟩)
    rw [rounds_succ]
    go_wp2_with (go_at_call 138; refine (tail_at s (i + 3) _ _ (by omega) hs (by omega)).mono ?_; rintro e w' ⟨rfl, rfl⟩)
    rw [rounds_succ]
    go_wp2
    go_ret3
    exact ⟨E.out, rfl⟩
  · have hd' : Utf8.decode s i = (65533, 1) := by rw [hd, if_neg (fun h => hok h.2)]
    have E := Hid.intro (none3 (by omega) (by omega) hd')
    by_cases hlow : V < 65536
    · have d1 : 64 * (64 * (64 * (((s[i]'hlt).toNat : Int) - 240) + ((s[i + 1]'l1).toNat : Int) - 128) + ((s[i + 2]'l2).toNat : Int) - 128) + ((s[i + 3]'l3).toNat : Int) - 128 < 65536 := by omega
      clear hok hlow hV hv
      clear hd hd' hg h1 h2 g1 q1 g2 q2 g3 q3
      go_enter Tryz.func118, Tryz.ntmps118
      go_wp2
      refine wp_loop_rounds 4 ?_
      rw [rounds_succ]
      go_wp2_with (go_at_call 138; refine (tail_at s (i + 1) _ _ (by omega) hs (by omega)).mono ?_; rintro e w' ⟨rfl, rfl⟩)
      rw [rounds_succ]
      go_wp2_with (go_at_call 138; refine (tail_at s (i + 2) _ _ (by omega) hs (by omega)).mono ?_; rintro e w' ⟨rfl, rfl⟩)
      rw [rounds_succ]
      go_wp2_with (go_at_call 138; refine (tail_at s (i + 3) _ _ (by omega) hs (by omega)).mono ?_; rintro e w' ⟨rfl, rfl⟩)
      rw [rounds_succ]
      go_wp2
      go_ret3
      exact ⟨E.out, rfl⟩
    · have d1 : (1114111 : Int) < 64 * (64 * (64 * (((s[i]'hlt).toNat : Int) - 240) + ((s[i + 1]'l1).toNat : Int) - 128) + ((s[i + 2]'l2).toNat : Int) - 128) + ((s[i + 3]'l3).toNat : Int) - 128 := by omega
      clear hok hlow hV hv
      clear hd hd' hg h1 h2 g1 q1 g2 q2 g3 q3
      go_enter Tryz.func118, Tryz.ntmps118
      go_wp2
      refine wp_loop_rounds 4 ?_
      rw [rounds_succ]
      go_wp2_with (go_at_call 138; refine (tail_at s (i + 1) _ _ (by omega) hs (by omega)).mono ?_; rintro e w' ⟨rfl, rfl⟩)
      rw [rounds_succ]
      go_wp2_with (go_at_call 138; refine (tail_at s (i + 2) _ _ (by omega) hs (by omega)).mono ?_; rintro e w' ⟨rfl, rfl⟩)
      rw [rounds_succ]
      go_wp2_with (go_at_call 138; refine (tail_at s (i + 3) _ _ (by omega) hs (by omega)).mono ?_; rintro e w' ⟨rfl, rfl⟩)
      rw [rounds_succ]
      go_wp2
      go_ret3
      exact ⟨E.out, rfl⟩

/-- Next, at every place of a text. -/
theorem next_any (s : ByteArray) (i : Nat) (w : World) (hs : s.size ≤ 1000000) (hlt : i < s.size) :
    Calls Tryz.prog 118 #[.string s, .int .i64 i] w fun e w' => e = .returned (.tuple #[.int .i64 (Utf8.decode s i).1, .int .i64 (Utf8.decode s i).2, .bool (wellAt s i)]) ∧ w' = w := by
  by_cases h1 : U.at' s i < 128
  · exact next_one s i w hs hlt h1
  by_cases h2 : U.at' s i < 192 ∨ 248 ≤ U.at' s i
  · exact next_bad s i w hs hlt (by omega) h2
  by_cases h3 : U.at' s i < 224
  · rcases Bool.eq_false_or_eq_true (U.tl s (i + 1)) with t1 | t1
    · exact next_2_yes s i w hs hlt (by omega) h3 t1
    · exact next_2_no1 s i w hs hlt (by omega) h3 t1
  by_cases h4 : U.at' s i < 240
  · rcases Bool.eq_false_or_eq_true (U.tl s (i + 1)) with t1 | t1
    · rcases Bool.eq_false_or_eq_true (U.tl s (i + 2)) with t2 | t2
      · exact next_3_yes s i w hs hlt (by omega) h4 t1 t2
      · exact next_3_no2 s i w hs hlt (by omega) h4 t1 t2
    · exact next_3_no1 s i w hs hlt (by omega) h4 t1
  · rcases Bool.eq_false_or_eq_true (U.tl s (i + 1)) with t1 | t1
    · rcases Bool.eq_false_or_eq_true (U.tl s (i + 2)) with t2 | t2
      · rcases Bool.eq_false_or_eq_true (U.tl s (i + 3)) with t3 | t3
        · exact next_4_yes s i w hs hlt (by omega) (by omega) t1 t2 t3
        · exact next_4_no3 s i w hs hlt (by omega) (by omega) t1 t2 t3
      · exact next_4_no2 s i w hs hlt (by omega) (by omega) t1 t2
    · exact next_4_no1 s i w hs hlt (by omega) (by omega) t1

end Go.Proofs.YtpgcidpghmoibaaGreatDoor

namespace Go.Proofs.YtpgcidpghmoibaaGreatDoor
namespace Rf
open Go.RowKit
open G (PNode)

/-- What a char or an escape leaves. -/
def CharPost (w : World) (b : Nat) (s : ByteArray) (S : Nat → Prop) (st : St) (r : Option (Nat × Nat)) (e : Ending) (w' : World) : Prop :=
  Evo w S w' S ∧ match r with
  | some (x, j) => e = .returned (.int .i64 (x : Int)) ∧ Rd w' b s S { st with i := j }
  | none => ∃ x m : Nat, e = .returned (.int .i64 (x : Int)) ∧ m ≤ st.i + 10 ∧ Rd w' b s S { st with i := m, err := 2, place := st.i }

set_option maxRecDepth 100000 in
set_option maxHeartbeats 2000000 in
theorem escape_self (w : World) (b : Nat) (s : ByteArray) (S : Nat → Prop) (st : St) (hR : Rd w b s S st) (hs : s.size ≤ 2000) (hi : st.i < s.size) (h0 : st.err = 0)
    (hself : G.self (G.pk s (st.i + 1)) = true) :
    Calls Tryz.prog 164 #[.pointer (some ⟨b, 0, none⟩)] w fun e w' => CharPost w b s S st (G.esc s st.i) e w' := by
  obtain ⟨hSb, _⟩ := hR.inS
  obtain ⟨c0, c1, c2, c3, c4, fr⟩ := hR.reads
  have hsee : seeV s { st with i := st.i + 1 } = G.pk s (st.i + 1) := seeV_ok (st := { st with i := st.i + 1 }) h0
  have R2 : ∀ n, Rd (((w.setCell ⟨b, 1, none⟩ (.int .i64 ((st.i : Int) + 1))).drewN n).setCell ⟨b, 1, none⟩ (.int .i64 ((st.i : Int) + 1 + 1))) b s S { st with i := st.i + 2 } := fun n => (hR.inc.drewN n).inc
  have E2 : ∀ n, Evo w S (((w.setCell ⟨b, 1, none⟩ (.int .i64 ((st.i : Int) + 1))).drewN n).setCell ⟨b, 1, none⟩ (.int .i64 ((st.i : Int) + 1 + 1))) S := fun n => (((Evo.refl w S).set hSb (.inl hSb) _ _).drewN n).set hSb (.inl hSb) _ _
  have HE : Hid _ := And.intro R2 E2
  clear R2 E2
  have he : G.esc s st.i = some ((G.pk s (st.i + 1)).toNat, st.i + 2) := by simp [G.esc, hself]
  rw [he]
  have hc := hself
  simp only [G.self, decide_eq_true_eq] at hc
  clear hself he
  generalize G.pk s (st.i + 1) = c at hc hsee ⊢
  rcases hc with rfl | rfl | rfl | rfl | rfl | rfl
  all_goals
    go_enter Tryz.func164, Tryz.ntmps164
    go_wp2_with (go_at_call 107; refine (see_any _ b s S _ hR.inc hs (by show st.i + 1 ≤ _; omega)).mono ?_; rw [hsee]; rintro e w' ⟨rfl, n2, rfl⟩)
    go_ret
    exact ⟨HE.out.2 _, rfl, HE.out.1 _⟩

set_option maxRecDepth 100000 in
set_option maxHeartbeats 2000000 in
theorem escape_n (w : World) (b : Nat) (s : ByteArray) (S : Nat → Prop) (st : St) (hR : Rd w b s S st) (hs : s.size ≤ 2000) (hi : st.i < s.size) (h0 : st.err = 0)
    (hself : ¬ G.self (G.pk s (st.i + 1)) = true) (hn : G.pk s (st.i + 1) = 110) :
    Calls Tryz.prog 164 #[.pointer (some ⟨b, 0, none⟩)] w fun e w' => CharPost w b s S st (G.esc s st.i) e w' := by
  obtain ⟨hSb, _⟩ := hR.inS
  obtain ⟨c0, c1, c2, c3, c4, fr⟩ := hR.reads
  have hsee : seeV s { st with i := st.i + 1 } = G.pk s (st.i + 1) := seeV_ok (st := { st with i := st.i + 1 }) h0
  have R2 : ∀ n, Rd (((w.setCell ⟨b, 1, none⟩ (.int .i64 ((st.i : Int) + 1))).drewN n).setCell ⟨b, 1, none⟩ (.int .i64 ((st.i : Int) + 1 + 1))) b s S { st with i := st.i + 2 } := fun n => (hR.inc.drewN n).inc
  have E2 : ∀ n, Evo w S (((w.setCell ⟨b, 1, none⟩ (.int .i64 ((st.i : Int) + 1))).drewN n).setCell ⟨b, 1, none⟩ (.int .i64 ((st.i : Int) + 1 + 1))) S := fun n => (((Evo.refl w S).set hSb (.inl hSb) _ _).drewN n).set hSb (.inl hSb) _ _
  have HE : Hid _ := And.intro R2 E2
  clear R2 E2
  have he : G.esc s st.i = some (10, st.i + 2) := by unfold G.esc; rw [if_neg hself, if_pos hn]
  rw [he]
  rw [hn] at hsee
  clear hself he
  go_enter Tryz.func164, Tryz.ntmps164
  go_wp2_with (go_at_call 107; refine (see_any _ b s S _ hR.inc hs (by show st.i + 1 ≤ _; omega)).mono ?_; rw [hsee]; rintro e w' ⟨rfl, n2, rfl⟩)
  go_ret
  exact ⟨HE.out.2 _, rfl, HE.out.1 _⟩

set_option maxRecDepth 100000 in
set_option maxHeartbeats 2000000 in
theorem escape_t (w : World) (b : Nat) (s : ByteArray) (S : Nat → Prop) (st : St) (hR : Rd w b s S st) (hs : s.size ≤ 2000) (hi : st.i < s.size) (h0 : st.err = 0)
    (hself : ¬ G.self (G.pk s (st.i + 1)) = true) (hn : ¬ G.pk s (st.i + 1) = 110) (ht : G.pk s (st.i + 1) = 116) :
    Calls Tryz.prog 164 #[.pointer (some ⟨b, 0, none⟩)] w fun e w' => CharPost w b s S st (G.esc s st.i) e w' := by
  obtain ⟨hSb, _⟩ := hR.inS
  obtain ⟨c0, c1, c2, c3, c4, fr⟩ := hR.reads
  have hsee : seeV s { st with i := st.i + 1 } = G.pk s (st.i + 1) := seeV_ok (st := { st with i := st.i + 1 }) h0
  have R2 : ∀ n, Rd (((w.setCell ⟨b, 1, none⟩ (.int .i64 ((st.i : Int) + 1))).drewN n).setCell ⟨b, 1, none⟩ (.int .i64 ((st.i : Int) + 1 + 1))) b s S { st with i := st.i + 2 } := fun n => (hR.inc.drewN n).inc
  have E2 : ∀ n, Evo w S (((w.setCell ⟨b, 1, none⟩ (.int .i64 ((st.i : Int) + 1))).drewN n).setCell ⟨b, 1, none⟩ (.int .i64 ((st.i : Int) + 1 + 1))) S := fun n => (((Evo.refl w S).set hSb (.inl hSb) _ _).drewN n).set hSb (.inl hSb) _ _
  have HE : Hid _ := And.intro R2 E2
  clear R2 E2
  have he : G.esc s st.i = some (9, st.i + 2) := by unfold G.esc; rw [if_neg hself, if_neg hn, if_pos ht]
  rw [he]
  rw [ht] at hsee
  clear hself he hn
  go_enter Tryz.func164, Tryz.ntmps164
  go_wp2_with (go_at_call 107; refine (see_any _ b s S _ hR.inc hs (by show st.i + 1 ≤ _; omega)).mono ?_; rw [hsee]; rintro e w' ⟨rfl, n2, rfl⟩)
  go_ret
  exact ⟨HE.out.2 _, rfl, HE.out.1 _⟩

end Rf
end Go.Proofs.YtpgcidpghmoibaaGreatDoor

namespace Go.Proofs.YtpgcidpghmoibaaGreatDoor
namespace Rf
open Go.RowKit
open G (PNode)

set_option maxRecDepth 100000 in
set_option maxHeartbeats 2000000 in
theorem escape_u_ok (w : World) (b : Nat) (s : ByteArray) (S : Nat → Prop) (st : St) (hR : Rd w b s S st) (hs : s.size ≤ 2000) (_hi : st.i < s.size) (h0 : st.err = 0)
    (hself : ¬ G.self (G.pk s (st.i + 1)) = true) (hn : ¬ G.pk s (st.i + 1) = 110) (ht : ¬ G.pk s (st.i + 1) = 116) (hu : G.pk s (st.i + 1) = 117) (h6 : st.i + 6 ≤ s.size) (hok : G.hexs s (st.i + 2) = true ∧ (G.hexv s (st.i + 2) < 55296 ∨ 57344 ≤ G.hexv s (st.i + 2))) :
    Calls Tryz.prog 164 #[.pointer (some ⟨b, 0, none⟩)] w fun e w' => CharPost w b s S st (G.esc s st.i) e w' := by
  obtain ⟨hSb, _⟩ := hR.inS
  obtain ⟨c0, c1, c2, c3, c4, fr⟩ := hR.reads
  have hsee : seeV s { st with i := st.i + 1 } = G.pk s (st.i + 1) := seeV_ok (st := { st with i := st.i + 1 }) h0
  have R2 : ∀ n, Rd (((w.setCell ⟨b, 1, none⟩ (.int .i64 ((st.i : Int) + 1))).drewN n).setCell ⟨b, 1, none⟩ (.int .i64 ((st.i : Int) + 1 + 1))) b s S { st with i := st.i + 2 } := fun n => (hR.inc.drewN n).inc
  have E2 : ∀ n, Evo w S (((w.setCell ⟨b, 1, none⟩ (.int .i64 ((st.i : Int) + 1))).drewN n).setCell ⟨b, 1, none⟩ (.int .i64 ((st.i : Int) + 1 + 1))) S := fun n => (((Evo.refl w S).set hSb (.inl hSb) _ _).drewN n).set hSb (.inl hSb) _ _
  have HE : Hid _ := And.intro R2 E2
  clear R2 E2
  rw [hu] at hsee
  have hv := hexV_extract s (st.i + 2) (by omega)
  have he : G.esc s st.i = some (G.hexv s (st.i + 2), st.i + 6) := by unfold G.esc; rw [if_neg hself, if_neg hn, if_neg ht, if_pos ⟨hu, h6, hok.1, hok.2⟩]
  rw [he]
  rw [if_pos hok.1] at hv
  have hvb := G.hexv_le s _ hok.1
  have hv2 := hok.2
  clear hself he hn ht hok
  generalize G.hexv s (st.i + 2) = v at hv hvb hv2 ⊢
  go_enter Tryz.func164, Tryz.ntmps164
  go_wp2_with (go_at_call 107; refine (see_any _ b s S _ hR.inc hs (by show st.i + 1 ≤ _; omega)).mono ?_; rw [hsee]; rintro e w' ⟨rfl, n2, rfl⟩)
  go_quiet (fail)
  go_wp2
  have g1 : (0 : Int) ≤ (st.i : Int) + 1 + 1 := by omega
  have g2 : (st.i : Int) + 1 + 1 ≤ (st.i : Int) + 1 + 1 + 4 := by omega
  have g3 : (st.i : Int) + 1 + 1 + 4 ≤ (s.size : Int) := by omega
  refine wp_region_quiet_lit (by kernel_rfl) (by kernel_rfl) ?_
  repeat (first
    | go_big_quiet_step ((go_at_call 172; refine (hex_any _ _ (by rw [ByteArray.size_extract]; omega)).mono ?_; rintro e w' ⟨rfl, rfl⟩; exact ⟨rfl, _, rfl⟩))
    | quiet_step ((go_at_call 172; refine (hex_any _ _ (by rw [ByteArray.size_extract]; omega)).mono ?_; rintro e w' ⟨rfl, rfl⟩; exact ⟨rfl, _, rfl⟩)))
  refine wpQuiet_nil ?_
  intro _ hw'
  obtain ⟨nq, hw''⟩ := hw'
  subst hw''
  rw [show st.i + 1 + 1 = st.i + 2 from rfl, hv]
  go_wp2
  all_goals
    go_ret
    exact ⟨((HE.out.2 _).drewN _).set hSb (.inl hSb) _ _, rfl, ((HE.out.1 _).drewN _).setI (st.i + 6)⟩

end Rf
end Go.Proofs.YtpgcidpghmoibaaGreatDoor

namespace Go.Proofs.YtpgcidpghmoibaaGreatDoor
namespace Rf
open Go.RowKit
open G (PNode)

set_option maxRecDepth 100000 in
set_option maxHeartbeats 2000000 in
theorem escape_u_bad (w : World) (b : Nat) (s : ByteArray) (S : Nat → Prop) (st : St) (hR : Rd w b s S st) (hs : s.size ≤ 2000) (_hi : st.i < s.size) (h0 : st.err = 0)
    (hself : ¬ G.self (G.pk s (st.i + 1)) = true) (hn : ¬ G.pk s (st.i + 1) = 110) (ht : ¬ G.pk s (st.i + 1) = 116) (hu : G.pk s (st.i + 1) = 117) (h6 : st.i + 6 ≤ s.size) (hok : ¬ (G.hexs s (st.i + 2) = true ∧ (G.hexv s (st.i + 2) < 55296 ∨ 57344 ≤ G.hexv s (st.i + 2)))) :
    Calls Tryz.prog 164 #[.pointer (some ⟨b, 0, none⟩)] w fun e w' => CharPost w b s S st (G.esc s st.i) e w' := by
  obtain ⟨hSb, _⟩ := hR.inS
  obtain ⟨c0, c1, c2, c3, c4, fr⟩ := hR.reads
  have hsee : seeV s { st with i := st.i + 1 } = G.pk s (st.i + 1) := seeV_ok (st := { st with i := st.i + 1 }) h0
  have R2 : ∀ n, Rd (((w.setCell ⟨b, 1, none⟩ (.int .i64 ((st.i : Int) + 1))).drewN n).setCell ⟨b, 1, none⟩ (.int .i64 ((st.i : Int) + 1 + 1))) b s S { st with i := st.i + 2 } := fun n => (hR.inc.drewN n).inc
  have E2 : ∀ n, Evo w S (((w.setCell ⟨b, 1, none⟩ (.int .i64 ((st.i : Int) + 1))).drewN n).setCell ⟨b, 1, none⟩ (.int .i64 ((st.i : Int) + 1 + 1))) S := fun n => (((Evo.refl w S).set hSb (.inl hSb) _ _).drewN n).set hSb (.inl hSb) _ _
  have HE : Hid _ := And.intro R2 E2
  clear R2 E2
  rw [hu] at hsee
  have hv := hexV_extract s (st.i + 2) (by omega)
  have he : G.esc s st.i = none := by unfold G.esc; rw [if_neg hself, if_neg hn, if_neg ht, if_neg (fun h => hok h.2.2)]
  rw [he]
  have hneg : ∃ v : Int, hexV (s.extract (st.i + 2) (st.i + 2 + 4)) = v ∧ -1 ≤ v ∧ v ≤ 65535 ∧ (v < 0 ∨ 55296 ≤ v ∧ v < 57344) := by
    rw [hv]
    by_cases hx : G.hexs s (st.i + 2) = true
    · rw [if_pos hx]
      have := G.hexv_le s _ hx
      exact ⟨_, rfl, by omega, by omega, by have := hok; simp only [hx, true_and] at this; omega⟩
    · rw [if_neg hx]
      exact ⟨_, rfl, by omega, by omega, by omega⟩
  obtain ⟨v, hv, hv1, hv2, hv3⟩ := hneg
  clear hself he hn ht hok
  go_enter Tryz.func164, Tryz.ntmps164
  go_wp2_with (go_at_call 107; refine (see_any _ b s S _ hR.inc hs (by show st.i + 1 ≤ _; omega)).mono ?_; rw [hsee]; rintro e w' ⟨rfl, n2, rfl⟩)
  go_quiet (fail)
  go_wp2
  have g1 : (0 : Int) ≤ (st.i : Int) + 1 + 1 := by omega
  have g2 : (st.i : Int) + 1 + 1 ≤ (st.i : Int) + 1 + 1 + 4 := by omega
  have g3 : (st.i : Int) + 1 + 1 + 4 ≤ (s.size : Int) := by omega
  refine wp_region_quiet_lit (by kernel_rfl) (by kernel_rfl) ?_
  repeat (first
    | go_big_quiet_step ((go_at_call 172; refine (hex_any _ _ (by rw [ByteArray.size_extract]; omega)).mono ?_; rintro e w' ⟨rfl, rfl⟩; exact ⟨rfl, _, rfl⟩))
    | quiet_step ((go_at_call 172; refine (hex_any _ _ (by rw [ByteArray.size_extract]; omega)).mono ?_; rintro e w' ⟨rfl, rfl⟩; exact ⟨rfl, _, rfl⟩)))
  refine wpQuiet_nil ?_
  intro _ hw'
  obtain ⟨nq, hw''⟩ := hw'
  subst hw''
  rw [show st.i + 1 + 1 = st.i + 2 from rfl, hv]
  rcases hv3 with hv3 | ⟨hv3, hv4⟩
  all_goals
    go_wp2_with (go_at_call 110; refine (fail_any _ b s S _ 2 st.i (((HE.out.1 _).drewN _).setI (st.i + 6))).mono ?_; rintro e w' ⟨rfl, hRf, hEf⟩)
    go_ret
    rw [failed, if_pos h0] at hRf
    exact ⟨(((HE.out.2 _).drewN _).set hSb (.inl hSb) _ _).trans hEf, 0, st.i + 6, rfl, by omega, hRf⟩

end Rf
end Go.Proofs.YtpgcidpghmoibaaGreatDoor

namespace Go.Proofs.YtpgcidpghmoibaaGreatDoor
namespace Rf
open Go.RowKit
open G (PNode)

set_option maxRecDepth 100000 in
set_option maxHeartbeats 2000000 in
theorem escape_u_short (w : World) (b : Nat) (s : ByteArray) (S : Nat → Prop) (st : St) (hR : Rd w b s S st) (hs : s.size ≤ 2000) (hi : st.i < s.size) (h0 : st.err = 0)
    (hself : ¬ G.self (G.pk s (st.i + 1)) = true) (hn : ¬ G.pk s (st.i + 1) = 110) (ht : ¬ G.pk s (st.i + 1) = 116) (hu : G.pk s (st.i + 1) = 117) (h6 : ¬ st.i + 6 ≤ s.size) :
    Calls Tryz.prog 164 #[.pointer (some ⟨b, 0, none⟩)] w fun e w' => CharPost w b s S st (G.esc s st.i) e w' := by
  obtain ⟨hSb, _⟩ := hR.inS
  obtain ⟨c0, c1, c2, c3, c4, fr⟩ := hR.reads
  have hsee : seeV s { st with i := st.i + 1 } = G.pk s (st.i + 1) := seeV_ok (st := { st with i := st.i + 1 }) h0
  have R2 : ∀ n, Rd (((w.setCell ⟨b, 1, none⟩ (.int .i64 ((st.i : Int) + 1))).drewN n).setCell ⟨b, 1, none⟩ (.int .i64 ((st.i : Int) + 1 + 1))) b s S { st with i := st.i + 2 } := fun n => (hR.inc.drewN n).inc
  have E2 : ∀ n, Evo w S (((w.setCell ⟨b, 1, none⟩ (.int .i64 ((st.i : Int) + 1))).drewN n).setCell ⟨b, 1, none⟩ (.int .i64 ((st.i : Int) + 1 + 1))) S := fun n => (((Evo.refl w S).set hSb (.inl hSb) _ _).drewN n).set hSb (.inl hSb) _ _
  have HE : Hid _ := And.intro R2 E2
  clear R2 E2
  rw [hu] at hsee
  have he : G.esc s st.i = none := by unfold G.esc; rw [if_neg hself, if_neg hn, if_neg ht, if_neg (fun h => h6 h.2.1)]
  rw [he]
  clear hself he hn ht
  go_enter Tryz.func164, Tryz.ntmps164
  go_wp2_with (go_at_call 107; refine (see_any _ b s S _ hR.inc hs (by show st.i + 1 ≤ _; omega)).mono ?_; rw [hsee]; rintro e w' ⟨rfl, n2, rfl⟩)
  go_quiet (fail)
  go_wp2_with (go_at_call 110; refine (fail_any _ b s S _ 2 st.i ((HE.out.1 _).drewN _)).mono ?_; rintro e w' ⟨rfl, hRf, hEf⟩)
  go_ret
  rw [failed, if_pos h0] at hRf
  exact ⟨((HE.out.2 _).drewN _).trans hEf, 0, st.i + 2, rfl, by omega, hRf⟩

set_option maxRecDepth 100000 in
set_option maxHeartbeats 2000000 in
theorem escape_other (w : World) (b : Nat) (s : ByteArray) (S : Nat → Prop) (st : St) (hR : Rd w b s S st) (hs : s.size ≤ 2000) (hi : st.i < s.size) (h0 : st.err = 0)
    (hself : ¬ G.self (G.pk s (st.i + 1)) = true) (hn : ¬ G.pk s (st.i + 1) = 110) (ht : ¬ G.pk s (st.i + 1) = 116) (hu : ¬ G.pk s (st.i + 1) = 117) :
    Calls Tryz.prog 164 #[.pointer (some ⟨b, 0, none⟩)] w fun e w' => CharPost w b s S st (G.esc s st.i) e w' := by
  obtain ⟨hSb, _⟩ := hR.inS
  obtain ⟨c0, c1, c2, c3, c4, fr⟩ := hR.reads
  have hsee : seeV s { st with i := st.i + 1 } = G.pk s (st.i + 1) := seeV_ok (st := { st with i := st.i + 1 }) h0
  have R2 : ∀ n, Rd (((w.setCell ⟨b, 1, none⟩ (.int .i64 ((st.i : Int) + 1))).drewN n).setCell ⟨b, 1, none⟩ (.int .i64 ((st.i : Int) + 1 + 1))) b s S { st with i := st.i + 2 } := fun n => (hR.inc.drewN n).inc
  have E2 : ∀ n, Evo w S (((w.setCell ⟨b, 1, none⟩ (.int .i64 ((st.i : Int) + 1))).drewN n).setCell ⟨b, 1, none⟩ (.int .i64 ((st.i : Int) + 1 + 1))) S := fun n => (((Evo.refl w S).set hSb (.inl hSb) _ _).drewN n).set hSb (.inl hSb) _ _
  have HE : Hid _ := And.intro R2 E2
  clear R2 E2
  have hns : ∀ x : Int, x = 39 ∨ x = 92 ∨ x = 91 ∨ x = 93 ∨ x = 45 ∨ x = 94 → G.pk s (st.i + 1) ≠ x := by
    intro x hx e
    exact hself (by simp only [G.self, decide_eq_true_eq]; omega)
  have he : G.esc s st.i = none := by unfold G.esc; rw [if_neg hself, if_neg hn, if_neg ht, if_neg (fun h => hu h.1)]
  rw [he]
  have n1 := hns 39 (by omega)
  have n2 := hns 92 (by omega)
  have n3 := hns 91 (by omega)
  have n4 := hns 93 (by omega)
  have n5 := hns 45 (by omega)
  have n6 := hns 94 (by omega)
  clear hself he hns
  generalize G.pk s (st.i + 1) = c at n1 n2 n3 n4 n5 n6 hn ht hu hsee
  go_enter Tryz.func164, Tryz.ntmps164
  go_wp2_with (first
    | (go_at_call 107; refine (see_any _ b s S _ hR.inc hs (by show st.i + 1 ≤ _; omega)).mono ?_; rw [hsee]; rintro e w' ⟨rfl, n7, rfl⟩)
    | (go_at_call 110; refine (fail_any _ b s S _ 2 st.i (HE.out.1 _)).mono ?_; rintro e w' ⟨rfl, hRf, hEf⟩))
  go_ret
  rw [failed, if_pos h0] at hRf
  exact ⟨(HE.out.2 _).trans hEf, 0, st.i + 2, rfl, by omega, hRf⟩

end Rf
end Go.Proofs.YtpgcidpghmoibaaGreatDoor

namespace Go.Proofs.YtpgcidpghmoibaaGreatDoor
namespace Rf
open Go.RowKit
open G (PNode)

theorem escape_any (w : World) (b : Nat) (s : ByteArray) (S : Nat → Prop) (st : St) (hR : Rd w b s S st) (hs : s.size ≤ 2000) (hi : st.i < s.size) (h0 : st.err = 0) :
    Calls Tryz.prog 164 #[.pointer (some ⟨b, 0, none⟩)] w fun e w' => CharPost w b s S st (G.esc s st.i) e w' := by
  by_cases hself : G.self (G.pk s (st.i + 1)) = true
  · exact escape_self w b s S st hR hs hi h0 hself
  by_cases hn : G.pk s (st.i + 1) = 110
  · exact escape_n w b s S st hR hs hi h0 hself hn
  by_cases ht : G.pk s (st.i + 1) = 116
  · exact escape_t w b s S st hR hs hi h0 hself hn ht
  by_cases hu : G.pk s (st.i + 1) = 117
  · by_cases h6 : st.i + 6 ≤ s.size
    · by_cases hok : G.hexs s (st.i + 2) = true ∧ (G.hexv s (st.i + 2) < 55296 ∨ 57344 ≤ G.hexv s (st.i + 2))
      · exact escape_u_ok w b s S st hR hs hi h0 hself hn ht hu h6 hok
      · exact escape_u_bad w b s S st hR hs hi h0 hself hn ht hu h6 hok
    · exact escape_u_short w b s S st hR hs hi h0 hself hn ht hu h6
  · exact escape_other w b s S st hR hs hi h0 hself hn ht hu

end Rf
end Go.Proofs.YtpgcidpghmoibaaGreatDoor
