/-
  THE PROGRAM's Compile of any source, as the laws without the reference ask for it; Pack and Load; the laws' helper twisted. Conditions: the library's tables lie in memory as the text lays them; texts are no longer than memory bears.
  THE PROGRAM's Cut, long texts and short ones together, as the laws without the reference ask for it. Conditions: the rules may be asked; the text is no longer than memory bears.
-/
import Derived.Test.YtpgcidpghmoibaaGreatDoorJ45
import Derived.Deep.QuietTactic
import Derived.BigQuiet
import Derived.Test.YtpgcidpghmoibaaGreatDoorJ49
namespace Go.Proofs.YtpgcidpghmoibaaGreatDoor
namespace Pr
open Go.RowKit
open G (PNode)

/-- Rules of the program's that stand for a table. -/
structure RuP (w : World) (b : Nat) (T : List PNode) (Q : List Nat) : Prop where
  pr : PRul w b T Q
  wf : G.WF T
  lt : ∀ q ∈ Q, q < T.length
  few : Q.length ≤ 50
  sz : G.sizeOf T Q ≤ 100
theorem RuP.below {w w' : World} {b : Nat} {T : List PNode} {Q : List Nat} (h : RuP w b T Q) (hb : Below w.heap.size w w') : RuP w' b T Q := ⟨h.pr.below hb, h.wf, h.lt, h.few, h.sz⟩
theorem RuP.pin {w : World} {b : Nat} {T : List PNode} {Q : List Nat} (h : RuP w b T Q) : ∃ m I v V P f, PIn w b m I v V T Q P f :=
  h.pr.pin h.wf h.lt (by rw [G.len_flatMap, G.sizeOf_pls h.wf Q h.lt h.sz]; exact h.sz)
/-- What Compile of any source leaves: an error and its place, or rules. -/
def CompAll (w : World) (s : ByteArray) (e : Ending) (w' : World) : Prop :=
  Below w.heap.size w w' ∧ ((∃ p c : Nat, c ≠ 0 ∧ e = .returned (.tuple #[.pointer none, .int .i64 (p : Int), .int .i64 (c : Int)])) ∨
    ∃ b T Q, s.size ≤ 2000 ∧ G.Src s 0 [] [] [] (.ok Q T) ∧ w.heap.size ≤ b ∧ e = .returned (.tuple #[pv b, .int .i64 0, .int .i64 0]) ∧ RuP w' b T Q)
theorem comp_all (w : World) (s : ByteArray) (hm : s.size ≤ maxLen) (hT : Tabs w) : Calls Tryz.prog 13 #[.string s] w fun e w' => CompAll w s e w' := by
  by_cases hs : 2000 < s.size
  · refine (pcomp_long w s hs hm).mono ?_
    rintro e w' ⟨rfl, rfl⟩
    exact ⟨Below.refl _ _, .inl ⟨0, 1, by omega, rfl⟩⟩
  · have hs2 : s.size ≤ 2000 := by omega
    obtain ⟨e0, w0, _, ⟨_, r, hsrc, hpost⟩, _⟩ := Rf.comp_whole w s hs2 []
    cases r with
    | err c p =>
      obtain ⟨hc, _⟩ := hpost
      refine (pcomp_any w s (.err c p) hs2 hT hsrc (fun c' p' e => by cases e; exact hc)).mono ?_
      rintro e w' ⟨hb, rfl⟩
      exact ⟨hb, .inl ⟨p, c, hc, rfl⟩⟩
    | ok Q T =>
      obtain ⟨hwf, hq, _⟩ := hpost
      refine (pcomp_any w s (.ok Q T) hs2 hT hsrc (fun c' p' e => by cases e)).mono ?_
      rintro e w' ⟨hb, ⟨_, rfl⟩ | ⟨⟨h1, h2⟩, b, hbl, rfl, hpr⟩⟩
      · exact ⟨hb, .inl ⟨0, 6, by omega, rfl⟩⟩
      · exact ⟨hb, .inr ⟨b, T, Q, hs2, hsrc, hbl, rfl, ⟨hpr, hwf, hq, h1, h2⟩⟩⟩
/-- Compile of a source that is known to be right. -/
theorem comp_ok (w : World) (s : ByteArray) (T : List PNode) (Q : List Nat) (hs : s.size ≤ 2000) (hsrc : G.Src s 0 [] [] [] (.ok Q T)) (h1 : Q.length ≤ 50) (h2 : G.sizeOf T Q ≤ 100) (hT : Tabs w) :
    Calls Tryz.prog 13 #[.string s] w fun e w' => Below w.heap.size w w' ∧ ∃ b, w.heap.size ≤ b ∧ e = .returned (.tuple #[pv b, .int .i64 0, .int .i64 0]) ∧ RuP w' b T Q := by
  obtain ⟨e0, w0, _, ⟨_, r, hsrc', hpost⟩, _⟩ := Rf.comp_whole w s hs []
  obtain rfl := hsrc.det _ hsrc'
  obtain ⟨hwf, hq, _⟩ := hpost
  refine (pcomp_any w s (.ok Q T) hs hT hsrc (fun c' p' e => by cases e)).mono ?_
  rintro e w' ⟨hb, ⟨h3, rfl⟩ | ⟨_, b, hbl, rfl, hpr⟩⟩
  · omega
  · exact ⟨hb, b, hbl, rfl, ⟨hpr, hwf, hq, h1, h2⟩⟩

set_option maxRecDepth 100000 in
theorem pack_any (w : World) (b : Nat) (T : List PNode) (Q : List Nat) (h : PRul w b T Q) : Calls Tryz.prog 46 #[pv b] w fun e w' => (∃ s, s.size ≤ 2000 ∧ G.Src s 0 [] [] [] (.ok Q T) ∧ e = .returned (.string s)) ∧ w' = w := by
  obtain ⟨I, m, v, V, h1, h2, h3⟩ := h.ex
  obtain ⟨s, hs, hsrc, hblk⟩ := h1.ex
  have c0 := Rf.cell_blk hblk 0 (.string s) rfl
  go_enter Tryz.func46, Tryz.ntmps46
  go_wp2
  go_ret
  exact ⟨⟨s, hs, hsrc, rfl⟩, rfl⟩

/-- What Load of any bytes leaves: nothing, or rules. -/
def LoadAll (w : World) (s : ByteArray) (e : Ending) (w' : World) : Prop :=
  Below w.heap.size w w' ∧ (e = .returned (.tuple #[.pointer none, .int .i64 7]) ∨
    ∃ b T Q, s.size ≤ 2000 ∧ G.Src s 0 [] [] [] (.ok Q T) ∧ w.heap.size ≤ b ∧ e = .returned (.tuple #[pv b, .int .i64 0]) ∧ RuP w' b T Q)
set_option maxRecDepth 100000 in
theorem load_all (w : World) (s : ByteArray) (hm : s.size ≤ maxLen) (hT : Tabs w) : Calls Tryz.prog 45 #[.string s] w fun e w' => LoadAll w s e w' := by
  go_enter Tryz.func45, Tryz.ntmps45
  go_wp2_with fail
  refine (comp_all w s hm hT).mono ?_
  rintro e w1 ⟨hb, ⟨p, c, hc, rfl⟩ | ⟨b, T, Q, hs, hsrc, hbl, rfl, hr⟩⟩
  · have hcb : ((c : Int) != 0) = true := by simp; omega
    go_wp2
    go_ret2
    exact ⟨hb, .inl rfl⟩
  · go_wp2
    go_ret2
    exact ⟨hb, .inr ⟨b, T, Q, hs, hsrc, hbl, rfl, hr⟩⟩
set_option maxRecDepth 100000 in
theorem load_ok (w : World) (s : ByteArray) (T : List PNode) (Q : List Nat) (hs : s.size ≤ 2000) (hsrc : G.Src s 0 [] [] [] (.ok Q T)) (h1 : Q.length ≤ 50) (h2 : G.sizeOf T Q ≤ 100) (hT : Tabs w) :
    Calls Tryz.prog 45 #[.string s] w fun e w' => Below w.heap.size w w' ∧ ∃ b, w.heap.size ≤ b ∧ e = .returned (.tuple #[pv b, .int .i64 0]) ∧ RuP w' b T Q := by
  go_enter Tryz.func45, Tryz.ntmps45
  go_wp2_with fail
  refine (comp_ok w s T Q hs hsrc h1 h2 hT).mono ?_
  rintro e w1 ⟨hb, b, hbl, rfl, hr⟩
  go_wp2
  go_ret2
  exact ⟨hb, b, hbl, rfl, hr⟩

set_option maxRecDepth 100000 in
set_option maxHeartbeats 1000000 in
theorem twisted_any (w : World) (s t : ByteArray) (hs : s.size ≤ 2000) (ht : t.size ≤ 140737488351232) :
    Calls Tryz.prog 47 #[.string s, .string t] w fun e w' => (∃ o, o.size ≤ 140737488353300 ∧ e = .returned (.string o)) ∧ Below w.heap.size w w' := by
  by_cases h0 : t.size = 0
  · have hb : ((t.size : Int) == 0) = true := by simpa using h0
    go_enter Tryz.func47, Tryz.ntmps47
    go_wp2
    go_ret
    exact ⟨⟨t, by omega, rfl⟩, Below.refl _ _⟩
  · have hb : ((t.size : Int) == 0) = false := by simpa using h0
    by_cases h1 : s.size = 0
    · have hb2 : ((s.size : Int) == 0) = true := by simpa using h1
      go_enter Tryz.func47, Tryz.ntmps47
      go_wp2
      go_ret
      exact ⟨⟨t, by omega, rfl⟩, Below.refl _ _⟩
    · have hb2 : ((s.size : Int) == 0) = false := by simpa using h1
      have ht0 : 0 < t.size := by omega
      obtain ⟨n, hn, hu⟩ : ∃ n : Nat, n ≤ s.size ∧ (wrap64 ((t[0]'ht0).toNat : Int)).tmod ((s.size : Int) + 1) = (n : Int) := by
        refine ⟨(t[0]'ht0).toNat % (s.size + 1), Nat.le_of_lt_succ (Nat.mod_lt (t[0]'ht0).toNat (Nat.succ_pos s.size)), ?_⟩
        have hl := UInt8.toNat_lt (t[0]'ht0)
        have hw : wrap64 ((t[0]'ht0).toNat : Int) = ((t[0]'ht0).toNat : Int) := by
          unfold wrap64
          omega
        rw [hw]
        exact (Int.ofNat_tmod _ _).symm
      have hw : wrap64 ((n : Int) + (t.size : Int) / 2) = (n : Int) + (t.size : Int) / 2 := by unfold wrap64; omega
      have hn1 : (n : Int) ≤ (s.size : Int) := by omega
      have hn0 : (0 : Int) ≤ (n : Int) := by omega
      have ht1 : (1 : Int) ≤ (t.size : Int) := by omega
      by_cases hE : (s.size : Int) < (n : Int) + (t.size : Int) / 2
      · go_enter Tryz.func47, Tryz.ntmps47
        go_wp2_with fail
        go_quiet (fail)
        go_wp2
        go_ret
        refine ⟨⟨_, ?_, rfl⟩, below_drewN (Below.refl _ _) _⟩
        simp [ByteArray.size_append, ByteArray.size_extract]
        omega
      · have hE' : (n : Int) + (t.size : Int) / 2 ≤ (s.size : Int) := by omega
        have hE0 : (0 : Int) ≤ (n : Int) + (t.size : Int) / 2 := by omega
        go_enter Tryz.func47, Tryz.ntmps47
        go_wp2_with fail
        go_quiet (fail)
        go_wp2
        go_ret
        refine ⟨⟨_, ?_, rfl⟩, below_drewN (Below.refl _ _) _⟩
        simp [ByteArray.size_append, ByteArray.size_extract]
        omega

end Pr
end Go.Proofs.YtpgcidpghmoibaaGreatDoor

namespace Go.Proofs.YtpgcidpghmoibaaGreatDoor
namespace Pr
open Go.RowKit
open G (PNode)

/-- What Cut answers of a text: its segments, or that it is long. -/
def CutIs (T : List PNode) (Q : List Nat) (t : ByteArray) (l : List G.Seg) (g : Int) : Prop :=
  (t.size ≤ 1000 ∧ g = 0 ∧ G.CutR T Q t 0 l) ∨ (1000 < t.size ∧ g = 1 ∧ l = [])
theorem CutIs.one {T : List PNode} {Q : List Nat} {t : ByteArray} {l l' : List G.Seg} {g g' : Int} (h : CutIs T Q t l g) (h' : CutIs T Q t l' g') : l = l' ∧ g = g' := by
  rcases h with ⟨h1, h2, h3⟩ | ⟨h1, h2, h3⟩ <;> rcases h' with ⟨k1, k2, k3⟩ | ⟨k1, k2, k3⟩
  · exact ⟨h3.one k3, by rw [h2, k2]⟩
  · omega
  · omega
  · exact ⟨by rw [h3, k3], by rw [h2, k2]⟩
theorem CutIs.few {T : List PNode} {Q : List Nat} {t : ByteArray} {l : List G.Seg} {g : Int} (h : CutIs T Q t l g) : l.length ≤ 1000 := by
  rcases h with ⟨h1, _, h3⟩ | ⟨_, _, rfl⟩
  · have := Rf.cut_few h3
    have h2 := U.units_length t
    rw [G.us_len] at this
    omega
  · simp
/-- The segments lie one behind the other, to the text's end. -/
theorem CutIs.chain {T : List PNode} {Q : List Nat} {t : ByteArray} {l : List G.Seg} {g : Int} (h : CutIs T Q t l g) : ∃ z, G.Chain 0 l z ∧ ((g = 0 ∧ z = t.size) ∨ (g = 1 ∧ l = [])) := by
  rcases h with ⟨_, h2, h3⟩ | ⟨_, h2, rfl⟩
  · exact ⟨t.size, h3.chain0, .inl ⟨h2, rfl⟩⟩
  · exact ⟨0, rfl, .inr ⟨h2, rfl⟩⟩
def CutAll (w : World) (T : List PNode) (Q : List Nat) (t : ByteArray) (e : Ending) (w' : World) : Prop :=
  (∃ v l g, e = .returned (.tuple #[v, .int .i64 g]) ∧ w'.ownsRow 0 65 3 v l.length (Rf.segs l) ∧ CutIs T Q t l g) ∧ Below w.heap.size w w'
theorem cut_all (w : World) (b : Nat) (T : List PNode) (Q : List Nat) (h : RuP w b T Q) (t : ByteArray) (ht : t.size ≤ maxLen) : Calls Tryz.prog 27 #[pv b, .string t] w fun e w' => CutAll w T Q t e w' := by
  by_cases hs : 1000 < t.size
  · refine (pcut_long w b t hs ht).mono ?_
    rintro e w' ⟨rfl, rfl⟩
    exact ⟨⟨_, [], 1, rfl, World.ownsRow_nil _ _ _ _, .inr ⟨hs, rfl, rfl⟩⟩, Below.refl _ _⟩
  · obtain ⟨m, I, v, V, P, f, hp⟩ := h.pin
    refine (pcut_short w b m I v V T Q P f hp t (by omega)).mono ?_
    rintro e w' ⟨⟨vo, l, rfl, hc, ho⟩, hb⟩
    exact ⟨⟨vo, l, 0, rfl, Rf.own_zero ho, .inl ⟨by omega, rfl, hc⟩⟩, hb⟩

end Pr
end Go.Proofs.YtpgcidpghmoibaaGreatDoor
