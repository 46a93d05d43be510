/-
  THE PROGRAM's Compile of any source, as the laws without the reference ask for it; Pack and Load; the laws' helper twisted. Conditions: the library's tables lie in memory as the text lays them; texts are no longer than memory bears.
  THE REFERENCE's Over: a cursor over the segments of a text; and its Last. Conditions: of Over: the rules may be asked; the text has at most 1000 bytes (or more: then nothing is cut). Of Last: the cursor has boundaries.
  THE LAWS' HELPER sameCut: two lists of segments that begin and end alike, of which a rule cut both or none, are the same. Conditions: both lie in memory, at most 100000 segments.
  THE PROGRAM's Cut, long texts and short ones together, as the laws without the reference ask for it. Conditions: the rules may be asked; the text is no longer than memory bears.
-/
import Derived.Test.YtpgcidpghmoibaaGreatDoorJ45
import Derived.Deep.QuietTactic
import Derived.BigQuiet
import Derived.Test.YtpgcidpghmoibaaGreatDoorJ49
import Derived.Test.YtpgcidpghmoibaaGreatDoorJ25
import Derived.Deep.Cut
namespace Go.Proofs.YtpgcidpghmoibaaGreatDoor
namespace Pr
open Go.RowKit
open G (PNode)

/-- Rules of the program's that stand for a table. -/
structure RuP (w : World) (b : Nat) (T : List PNode) (Q : List Nat) : Prop where
  pr : PRul w b T Q
  wf : G.WF T
  lt : ∀ q ∈ Q, q < T.length
  few : Q.length ≤ 50
  sz : G.sizeOf T Q ≤ 100
theorem RuP.below {w w' : World} {b : Nat} {T : List PNode} {Q : List Nat} (h : RuP w b T Q) (hb : Below w.heap.size w w') : RuP w' b T Q := ⟨h.pr.below hb, h.wf, h.lt, h.few, h.sz⟩
theorem RuP.pin {w : World} {b : Nat} {T : List PNode} {Q : List Nat} (h : RuP w b T Q) : ∃ m I v V P f, PIn w b m I v V T Q P f :=
  h.pr.pin h.wf h.lt (by rw [G.len_flatMap, G.sizeOf_pls h.wf Q h.lt h.sz]; exact h.sz)
/-- What Compile of any source leaves: an error and its place, or rules. -/
def CompAll (w : World) (s : ByteArray) (e : Ending) (w' : World) : Prop :=
  Below w.heap.size w w' ∧ ((∃ p c : Nat, c ≠ 0 ∧ e = .returned (.tuple #[.pointer none, .int .i64 (p : Int), .int .i64 (c : Int)])) ∨
    ∃ b T Q, s.size ≤ 2000 ∧ G.Src s 0 [] [] [] (.ok Q T) ∧ w.heap.size ≤ b ∧ e = .returned (.tuple #[pv b, .int .i64 0, .int .i64 0]) ∧ RuP w' b T Q)
theorem comp_all (w : World) (s : ByteArray) (hm : s.size ≤ maxLen) (hT : Tabs w) : Calls Tryz.prog 13 #[.string s] w fun e w' => CompAll w s e w' := by
  by_cases hs : 2000 < s.size
  · refine (pcomp_long w s hs hm).mono ?_
    rintro e w' ⟨rfl, rfl⟩
    exact ⟨Below.refl _ _, .inl ⟨0, 1, by omega, rfl⟩⟩
  · have hs2 : s.size ≤ 2000 := by omega
    obtain ⟨e0, w0, _, ⟨_, r, hsrc, hpost⟩, _⟩ := Rf.comp_whole w s hs2 []
    cases r with
    | err c p =>
      obtain ⟨hc, _⟩ := hpost
      refine (pcomp_any w s (.err c p) hs2 hT hsrc (fun c' p' e => by cases e; exact hc)).mono ?_
      rintro e w' ⟨hb, rfl⟩
      exact ⟨hb, .inl ⟨p, c, hc, rfl⟩⟩
    | ok Q T =>
      obtain ⟨hwf, hq, _⟩ := hpost
      refine (pcomp_any w s (.ok Q T) hs2 hT hsrc (fun c' p' e => by cases e)).mono ?_
      rintro e w' ⟨hb, ⟨_, rfl⟩ | ⟨⟨h1, h2⟩, b, hbl, rfl, hpr⟩⟩
      · exact ⟨hb, .inl ⟨0, 6, by omega, rfl⟩⟩
      · exact ⟨hb, .inr ⟨b, T, Q, hs2, hsrc, hbl, rfl, ⟨hpr, hwf, hq, h1, h2⟩⟩⟩
/-- Compile of a source that is known to be right. -/
theorem comp_ok (w : World) (s : ByteArray) (T : List PNode) (Q : List Nat) (hs : s.size ≤ 2000) (hsrc : G.Src s 0 [] [] [] (.ok Q T)) (h1 : Q.length ≤ 50) (h2 : G.sizeOf T Q ≤ 100) (hT : Tabs w) :
    Calls Tryz.prog 13 #[.string s] w fun e w' => Below w.heap.size w w' ∧ ∃ b, w.heap.size ≤ b ∧ e = .returned (.tuple #[pv b, .int .i64 0, .int .i64 0]) ∧ RuP w' b T Q := by
  obtain ⟨e0, w0, _, ⟨_, r, hsrc', hpost⟩, _⟩ := Rf.comp_whole w s hs []
  obtain rfl := hsrc.det _ hsrc'
  obtain ⟨hwf, hq, _⟩ := hpost
  refine (pcomp_any w s (.ok Q T) hs hT hsrc (fun c' p' e => by cases e)).mono ?_
  rintro e w' ⟨hb, ⟨h3, rfl⟩ | ⟨_, b, hbl, rfl, hpr⟩⟩
  · omega
  · exact ⟨hb, b, hbl, rfl, ⟨hpr, hwf, hq, h1, h2⟩⟩

set_option maxRecDepth 100000 in
theorem pack_any (w : World) (b : Nat) (T : List PNode) (Q : List Nat) (h : PRul w b T Q) : Calls Tryz.prog 46 #[pv b] w fun e w' => (∃ s, s.size ≤ 2000 ∧ G.Src s 0 [] [] [] (.ok Q T) ∧ e = .returned (.string s)) ∧ w' = w := by
  obtain ⟨I, m, v, V, h1, h2, h3⟩ := h.ex
  obtain ⟨s, hs, hsrc, hblk⟩ := h1.ex
  have c0 := Rf.cell_blk hblk 0 (.string s) rfl
  go_enter Tryz.func46, Tryz.ntmps46
  go_wp2
  go_ret
  exact ⟨⟨s, hs, hsrc, rfl⟩, rfl⟩

/-- What Load of any bytes leaves: nothing, or rules. -/
def LoadAll (w : World) (s : ByteArray) (e : Ending) (w' : World) : Prop :=
  Below w.heap.size w w' ∧ (e = .returned (.tuple #[.pointer none, .int .i64 7]) ∨
    ∃ b T Q, s.size ≤ 2000 ∧ G.Src s 0 [] [] [] (.ok Q T) ∧ w.heap.size ≤ b ∧ e = .returned (.tuple #[pv b, .int .i64 0]) ∧ RuP w' b T Q)
set_option maxRecDepth 100000 in
theorem load_all (w : World) (s : ByteArray) (hm : s.size ≤ maxLen) (hT : Tabs w) : Calls Tryz.prog 45 #[.string s] w fun e w' => LoadAll w s e w' := by
  go_enter Tryz.func45, Tryz.ntmps45
  go_wp2_with fail
  refine (comp_all w s hm hT).mono ?_
  rintro e w1 ⟨hb, ⟨p, c, hc, rfl⟩ | ⟨b, T, Q, hs, hsrc, hbl, rfl, hr⟩⟩
  · have hcb : ((c : Int) != 0) = true := by simp; omega
    go_wp2
    go_ret2
    exact ⟨hb, .inl rfl⟩
  · go_wp2
    go_ret2
    exact ⟨hb, .inr ⟨b, T, Q, hs, hsrc, hbl, rfl, hr⟩⟩
set_option maxRecDepth 100000 in
theorem load_ok (w : World) (s : ByteArray) (T : List PNode) (Q : List Nat) (hs : s.size ≤ 2000) (hsrc : G.Src s 0 [] [] [] (.ok Q T)) (h1 : Q.length ≤ 50) (h2 : G.sizeOf T Q ≤ 100) (hT : Tabs w) :
    Calls Tryz.prog 45 #[.string s] w fun e w' => Below w.heap.size w w' ∧ ∃ b, w.heap.size ≤ b ∧ e = .returned (.tuple #[pv b, .int .i64 0]) ∧ RuP w' b T Q := by
  go_enter Tryz.func45, Tryz.ntmps45
  go_wp2_with fail
  refine (comp_ok w s T Q hs hsrc h1 h2 hT).mono ?_
  rintro e w1 ⟨hb, b, hbl, rfl, hr⟩
  go_wp2
  go_ret2
  exact ⟨hb, b, hbl, rfl, hr⟩

set_option maxRecDepth 100000 in
set_option maxHeartbeats 1000000 in
theorem twisted_any (w : World) (s t : ByteArray) (hs : s.size ≤ 2000) (ht : t.size ≤ 140737488351232) :
    Calls Tryz.prog 47 #[.string s, .string t] w fun e w' => (∃ o, o.size ≤ 140737488353300 ∧ e = .returned (.string o)) ∧ Below w.heap.size w w' := by
  by_cases h0 : t.size = 0
  · have hb : ((t.size : Int) == 0) = true := by simpa using h0
    go_enter Tryz.func47, Tryz.ntmps47
    go_wp2
    go_ret
    exact ⟨⟨t, by omega, rfl⟩, Below.refl _ _⟩
  · have hb : ((t.size : Int) == 0) = false := by simpa using h0
    by_cases h1 : s.size = 0
    · have hb2 : ((s.size : Int) == 0) = true := by simpa using h1
      go_enter Tryz.func47, Tryz.ntmps47
      go_wp2
      go_ret
      exact ⟨⟨t, by omega, rfl⟩, Below.refl _ _⟩
    · have hb2 : ((s.size : Int) == 0) = false := by simpa using h1
      have ht0 : 0 < t.size := by omega
      obtain ⟨n, hn, hu⟩ : ∃ n : Nat, n ≤ s.size ∧ (wrap64 ((t[0]'ht0).toNat : Int)).tmod ((s.size : Int) + 1) = (n : Int) := by
        refine ⟨(t[0]'ht0).toNat % (s.size + 1), Nat.le_of_lt_succ (Nat.mod_lt (t[0]'ht0).toNat (Nat.succ_pos s.size)), ?_⟩
        have hl := UInt8.toNat_lt (t[0]'ht0)
        have hw : wrap64 ((t[0]'ht0).toNat : Int) = ((t[0]'ht0).toNat : Int) := by
          unfold wrap64
          omega
        rw [hw]
        exact (Int.ofNat_tmod _ _).symm
      have hw : wrap64 ((n : Int) + (t.size : Int) / 2) = (n : Int) + (t.size : Int) / 2 := by unfold wrap64; omega
      have hn1 : (n : Int) ≤ (s.size : Int) := by omega
      have hn0 : (0 : Int) ≤ (n : Int) := by omega
      have ht1 : (1 : Int) ≤ (t.size : Int) := by omega
      by_cases hE : (s.size : Int) < (n : Int) + (t.size : Int) / 2
      · go_enter Tryz.func47, Tryz.ntmps47
        go_wp2_with fail
        go_quiet (fail)
        go_wp2
        go_ret
        refine ⟨⟨_, ?_, rfl⟩, below_drewN (Below.refl _ _) _⟩
        simp [ByteArray.size_append, ByteArray.size_extract]
        omega
      · have hE' : (n : Int) + (t.size : Int) / 2 ≤ (s.size : Int) := by omega
        have hE0 : (0 : Int) ≤ (n : Int) + (t.size : Int) / 2 := by omega
        go_enter Tryz.func47, Tryz.ntmps47
        go_wp2_with fail
        go_quiet (fail)
        go_wp2
        go_ret
        refine ⟨⟨_, ?_, rfl⟩, below_drewN (Below.refl _ _) _⟩
        simp [ByteArray.size_append, ByteArray.size_extract]
        omega

end Pr
end Go.Proofs.YtpgcidpghmoibaaGreatDoor

namespace Go.Proofs.YtpgcidpghmoibaaGreatDoor
namespace Rf
open Go.RowKit
open Cs
open G (PNode)

theorem seg_to {w : World} {la : Option Addr} {n lc : Nat} {l : List G.Seg} (h : w.ownsRow 0 65 3 (.slice la n lc) n (segs l)) {k : Nat} {x : G.Seg} (hx : l[k]? = some x) (hk : k < n) :
    ∃ g, la = some ⟨g, 0, none⟩ ∧ ∀ wr, Below w.heap.size w wr → wr.cell? ⟨g, k * 3, none⟩ = some (.int .i64 (x.f : Int)) ∧ wr.cell? ⟨g, k * 3 + 1, none⟩ = some (.int .i64 (x.t : Int)) ∧ wr.cell? ⟨g, k * 3 + 2, none⟩ = some (.int .i64 x.r) := by
  obtain ⟨g, cap, hv, _, hlt⟩ := h.form (by omega)
  simp only [Value.slice.injEq] at hv
  obtain ⟨rfl, _, rfl⟩ := hv
  refine ⟨g, rfl, fun wr hb => ?_⟩
  have key : ∀ o u, o < 3 → (scell3 x)[o]? = some u → wr.cell? ⟨g, k * 3 + o, none⟩ = some u := by
    intro o u ho hu
    rw [hb.cell (p := ⟨g, k * 3 + o, none⟩) hlt, h.cellAt _ (by omega)]
    rw [← hu]
    exact flat_get scell3 3 (fun _ => rfl) l k o x hx ho
  exact ⟨key 0 _ (by omega) rfl, key 1 _ (by omega) rfl, key 2 _ (by omega) rfl⟩
theorem cut_few {T : List PNode} {Q : List Nat} {s : ByteArray} {k : Nat} {l : List G.Seg} (h : G.CutR T Q s k l) : l.length + k ≤ (G.us s).length := by
  induction h with
  | done h => simp [h]
  | cons h1 h2 h3 ih =>
    simp only [List.length_cons]
    omega
theorem bnds_snoc (p : Nat) (l : List G.Seg) (k : Nat) (x : G.Seg) (hx : l[k]? = some x) : G.bnds p (l.take (k + 1)) = G.bnds p (l.take k) ++ [x.t] := by
  obtain ⟨hk, rfl⟩ := List.getElem?_eq_some_iff.1 hx
  unfold G.bnds
  rw [List.take_succ_eq_append_getElem hk, List.map_append]
  rfl
theorem cut_bn {T : List PNode} {Q : List Nat} {s : ByteArray} {l : List G.Seg} (h : G.CutR T Q s 0 l) (hs : s.size ≤ 1000) : Bn (G.bnds 0 l) := by
  refine ⟨h.chain0.asc, rfl, ?_⟩
  have h1 := cut_few h
  have h2 := U.units_length s
  rw [G.us_len] at h1
  rw [G.bnds_len]
  omega

set_option maxRecDepth 100000 in
set_option maxHeartbeats 1000000 in
theorem rover_long (w : World) (b : Nat) (s : ByteArray) (hs : 1000 < s.size) (hm : s.size ≤ maxLen) :
    Calls Tryz.prog 34 #[.pointer (some ⟨b, 0, none⟩), .string s] w fun e w' => (∃ c, e = .returned (.tuple #[.pointer (some ⟨c, 0, none⟩), .int .i64 1])) ∧ Below w.heap.size w w' := by
  go_enter Tryz.func34, Tryz.ntmps34
  go_wp2_with (go_at_call 58; refine (rcut_long w b s hs hm).mono ?_; rintro e w2 ⟨rfl, rfl⟩)
  go_loopw [9] (fun vi wr => vi = .int .i64 0 ∧ Below w2.heap.size w2 wr) (fun _ _ => 0)
  case atStart => exact ⟨rfl, ((Below.refl _ _).alloc (Nat.le_refl _) _).alloc (by simp) _⟩
  case round =>
    obtain ⟨rfl, hb⟩ := hrel
    go_wp2
    go_ret2
    exact ⟨⟨_, rfl⟩, hb⟩

set_option maxRecDepth 100000 in
set_option maxHeartbeats 2000000 in
theorem rover_short (w : World) (b : Nat) (T : List PNode) (Q : List Nat) (L : List PState) (B F : List Nat) (I : Nat → Prop) (hR : RIn w b T Q L B F I) (s : ByteArray) (hs : s.size ≤ 1000) :
    Calls Tryz.prog 34 #[.pointer (some ⟨b, 0, none⟩), .string s] w fun e w' => (∃ c v l, e = .returned (.tuple #[.pointer (some ⟨c, 0, none⟩), .int .i64 0]) ∧ G.CutR T Q s 0 l ∧ Cu 84 w' c v (G.bnds 0 l) 0 ∧ w.heap.size ≤ c ∧ (∀ k, v.ownBlock = some k → w.heap.size ≤ k)) ∧ Below w.heap.size w w' := by
  obtain ⟨i0, hi, hz0, hz1, hz2⟩ := info_parts infoInt
  have hul := U.units_length s
  go_enter Tryz.func34, Tryz.ntmps34
  go_wp2_with (go_at_call 58; refine (rcut_short w b T Q L B F I hR s hs).mono ?_; rintro e w2 ⟨⟨v2, l, rfl, hcut, ho⟩, hb2⟩; obtain ⟨a2, d2, hv2⟩ := own_len ho; subst hv2)
  have z2 := hb2.size
  have o2 := own_zero ho
  have hfew := cut_few hcut
  rw [G.us_len] at hfew
  have hc0 : Cu 84 ((w2.alloc (.cells #[.int .i64 0] 3)).alloc (.cells #[.slice (some ⟨w2.heap.size, 0, none⟩) 1 1, .int .i64 0] 84)) (w2.heap.size + 1) (.slice (some ⟨w2.heap.size, 0, none⟩) 1 1) (G.bnds 0 (l.take 0)) 0 := by
    refine ⟨?_, ?_, ?_⟩
    · have := heap_alloc_new (w2.alloc (.cells #[.int .i64 0] 3)) (.cells #[.slice (some ⟨w2.heap.size, 0, none⟩) 1 1, .int .i64 0] 84)
      simpa using this
    · have := own_new w2 0 3 1 1 #[.int .i64 0] (Nat.zero_le _) rfl (by unfold maxLen; omega)
      exact own_same this (fun k e => Below.heap_alloc _ _ _ (this.lt k e).2)
    · simp [Value.ownBlock]
  go_loopw [9] (fun vi wr => ∃ (k : Nat) (v : Value), vi = .int .i64 k ∧ k ≤ l.length ∧ Cu 84 wr (w2.heap.size + 1) v (G.bnds 0 (l.take k)) 0 ∧ (∀ j, v.ownBlock = some j → w2.heap.size ≤ j) ∧ Below w2.heap.size w2 wr) (fun vi _ => l.length - (intOf vi).toNat)
  case atStart => exact ⟨0, _, rfl, Nat.zero_le _, hc0, fun j e => by simp [Value.ownBlock] at e; omega, ((Below.refl _ _).alloc (Nat.le_refl _) _).alloc (by simp) _⟩
  case round =>
    obtain ⟨k, v, rfl, hk, hC, hv, hbr⟩ := hrel
    by_cases hlt : k < l.length
    · have hx : l[k]? = some l[k] := List.getElem?_eq_getElem hlt
      generalize l[k] = x at hx
      obtain ⟨g1, rfl, cs⟩ := seg_to o2 hx hlt
      have e1 := (cs wr hbr).2.1
      have hBl : (G.bnds 0 (l.take k)).length = k + 1 := by rw [G.bnds_len, List.length_take]; omega
      obtain ⟨va, vc, hve⟩ := own_len hC.row
      subst hve
      have c0 := cell_blk hC.blk 0 (.slice va (G.bnds 0 (l.take k)).length vc) rfl
      have hcl := lt_of_block hC.blk
      have hne := hC.ne
      have orow := hC.row
      rw [hBl] at c0 hne orow
      have HS : Hid _ := bnds_snoc 0 l k x hx
      have HC : Hid _ := And.intro hC (And.intro hv hbr)
      have zr := hbr.size
      clear hC hv hbr cs hc0
      rw [hBl] at HC
      go_upto_region 6 with fail
      go_region_law
        ((refine step_append_lies _ (by rfl) _ _ _ (by rfl) 0 3 i0 _ 1 8 Tryz.underlying33 hi hz0 hz1 hz2 rfl (by omega) (.slice va (k + 1) vc) (k + 1) (bV (G.bnds 0 (l.take k))) (by rfl) ((orow.alloc _).drew)
            ⟨wr.heap.size, 0, none⟩ 1 1 [.int .i64 (x.t : Int)] (by rfl) (by rfl) (World.news_of_block (cs := #[.int .i64 (x.t : Int)]) (t := 3) (fr := (0, 0)) (heap_alloc_new wr _)) (by simp [Value.oneCell'])
            (by omega) (by unfold maxLen; omega) (by omega) (by simp) (wr.heap.size + 1) (by simp) ?_; intro g2 cap2 w4 hn2 hg2 hat2 hlt2; have hb4 : w4.heap[w2.heap.size + 1]? = _ := (hg2.block (w2.heap.size + 1) (by simp; omega) (fun e => hne e.symm)).trans ((Below.heap_alloc _ _ _ hcl).trans HC.out.1.blk); have fb2' := free_blk hb4 0; have cb2' := cell_blk hb4 0 (.slice va (k + 1) vc) rfl; clear hb4))
      all_goals
        have hfin := HC.out.1.grow (v' := .slice (some ⟨g2, 0, none⟩) (k + 1 + 1) cap2) (x := x.t) (((Kept.refl _ _).alloc _).drew) hg2 (lies_of hat2 (by omega)) (by rw [hBl]; exact hn2)
        have hnew : ∀ j, (Value.slice (some ⟨g2, 0, none⟩) (k + 1 + 1) cap2).ownBlock = some j → w2.heap.size ≤ j := fun j e => by
          rcases lies_of (w := wr) hat2 (by omega) j e with h | h
          · exact HC.out.2.1 j h
          · omega
        have hbel : Below w2.heap.size w2 (w4.setCell ⟨w2.heap.size + 1, 0, none⟩ (.slice (some ⟨g2, 0, none⟩) (k + 1 + 1) cap2)) := (((((Kept.of_below (p := fun _ => True) HC.out.2.2).alloc _).drew).grown hg2 (fun j e hj _ => by have := HC.out.2.1 j e; omega)).setNew (q := ⟨w2.heap.size + 1, 0, none⟩) (by show _ ≤ w2.heap.size + 1; omega) _).all
        rw [← HS.out] at hfin
        have HF : Hid _ := And.intro hfin (And.intro hnew hbel)
        clear hfin hnew hbel hn2 hg2 hat2 hlt2 fb2' cb2' c0 e1
        generalize w4.setCell ⟨w2.heap.size + 1, 0, none⟩ (.slice (some ⟨g2, 0, none⟩) (k + 1 + 1) cap2) = w5 at HF ⊢
        go_wp2
        go_roundw
        case rel => exact ⟨k + 1, _, by go_num, by omega, HF.out.1, HF.out.2.1, HF.out.2.2⟩
        case measure => simp [intOf]; omega
    · obtain rfl : k = l.length := by omega
      go_wp2
      go_ret2
      rw [List.take_length] at hC
      exact ⟨⟨_, v, l, rfl, hcut, hC, by omega, fun j e => by have := hv j e; omega⟩, hb2.trans (hbr.mono z2)⟩

set_option maxRecDepth 100000 in
set_option maxHeartbeats 1000000 in
theorem rlast_any (w : World) (c : Nat) (v : Value) (B : List Nat) (a z : Nat) (h : Cu 84 w c v B a) (hB : Bn B) (hz : B[B.length - 1]? = some z) :
    Calls Tryz.prog 64 #[.pointer (some ⟨c, 0, none⟩)] w fun e w' => MovesTo 84 w c v B a (z : Int) e w' := by
  have hpos := hB.pos
  have hfew := hB.few
  have hd : Cu 84 w.drew c v B a := h.same (fun _ _ => rfl)
  have hg := goes_any w.drew c v B a hd (z : Int) (.inl ⟨z, rfl⟩)
  obtain ⟨g, cap, rfl, hgc, cell⟩ := h.cells hpos
  have c0 := cell_blk h.blk 0 (.slice (some ⟨g, 0, none⟩) B.length cap) rfl
  have cz := cell (B.length - 1) z hz
  obtain ⟨N, hN⟩ : ∃ N, B.length = N + 1 := ⟨B.length - 1, by omega⟩
  rw [show B.length - 1 = N by omega] at cz
  have hn1 : IntKind.i64.wrap ((B.length : Int) - 1) = (N : Int) := by rw [IntKind.wrap_i64]; omega
  have hn3 : (N : Int) < (B.length : Int) := by omega
  have hn4 : (0 : Int) ≤ (N : Int) := by omega
  have hn5 : ¬ (N : Int) < 0 := by omega
  have hn7 : N < B.length := by omega
  generalize B.length = n at *
  clear hN
  clear cell h hd hz hpos hfew
  go_enter Tryz.func64, Tryz.ntmps64
  go_wp2_with fail
  go_region_with (go_at_call 90; refine hg.mono ?_; rintro e w2 ⟨rfl, h2, h3⟩)
  all_goals
    go_wp2
    go_ret
    exact ⟨rfl, h2, (Kept.refl _ _).drew.trans h3⟩

end Rf
end Go.Proofs.YtpgcidpghmoibaaGreatDoor

namespace Go.Proofs.YtpgcidpghmoibaaGreatDoor
namespace Pr
open Go.RowKit

/-- Segments of two cuts that are the same but for the rules' numbers. -/
def SegEq (l k : List G.Seg) : Prop := l.length = k.length ∧ ∀ (i : Nat) (x y : G.Seg), l[i]? = some x → k[i]? = some y → x.f = y.f ∧ x.t = y.t ∧ (x.r < 0 ↔ y.r < 0)
theorem SegEq.refl (l : List G.Seg) : SegEq l l := ⟨rfl, fun i x y hx hy => by rw [hx] at hy; simp only [Option.some.injEq] at hy; subst hy; exact ⟨rfl, rfl, Iff.rfl⟩⟩

set_option maxRecDepth 100000 in
set_option maxHeartbeats 2000000 in
theorem sameCut_any (w : World) (l k : List G.Seg) (u v : Value) (hu : w.ownsRow 0 65 3 u l.length (Rf.segs l)) (hv : w.ownsRow 0 65 3 v k.length (Rf.segs k)) (hn : l.length ≤ 100000) (he : SegEq l k) :
    Calls Tryz.prog 28 #[u, v] w fun e w' => e = .returned (.bool true) ∧ Below w.heap.size w w' := by
  obtain ⟨hlen, hall⟩ := he
  obtain ⟨ua, uc, rfl⟩ := Rf.own_len hu
  obtain ⟨va, vc, rfl⟩ := Rf.own_len hv
  rw [← hlen] at hv
  rw [← hlen]
  have HL : Hid (l.length = k.length) := hlen
  clear hlen
  generalize hN : l.length = n at *
  have HN : Hid (l.length = n) := hN
  clear hN
  go_enter Tryz.func28, Tryz.ntmps28
  go_wp2
  go_loopw [5] (fun vi wr => ∃ i : Nat, vi = .int .i64 i ∧ i ≤ n ∧ Below w.heap.size w wr) (fun vi _ => n - (intOf vi).toNat)
  case atStart => exact ⟨0, rfl, Nat.zero_le _, Below.refl _ _⟩
  case round =>
    obtain ⟨i, rfl, hi, hbr⟩ := hrel
    by_cases hlt : i < n
    · have hx : l[i]? = some (l[i]'(by rw [HN.out]; exact hlt)) := List.getElem?_eq_getElem _
      generalize l[i]'(by rw [HN.out]; exact hlt) = x at hx
      have hy : k[i]? = some (k[i]'(by rw [← HL.out]; exact hlt)) := List.getElem?_eq_getElem _
      generalize k[i]'(by rw [← HL.out]; exact hlt) = y at hy
      obtain ⟨h1, h2, h3⟩ := hall i x y hx hy
      obtain ⟨g1, rfl, cs1⟩ := Rf.seg_to hu hx hlt
      obtain ⟨g2, rfl, cs2⟩ := Rf.seg_to hv hy hlt
      obtain ⟨a0, a1, a2⟩ := cs1 wr hbr
      obtain ⟨b0, b1, b2⟩ := cs2 wr hbr
      rw [← h1] at b0
      rw [← h2] at b1
      clear cs1 cs2 hx hy h1 h2 hall hu hv
      obtain ⟨xf, xt, xr⟩ := x
      obtain ⟨yf, yt, yr⟩ := y
      simp only at *
      have hii : (i : Int) < (n : Int) := by omega
      have hi0 : (0 : Int) ≤ (i : Int) := by omega
      by_cases hr : xr < 0
      · have hr' : yr < 0 := h3.1 hr
        clear h3
        go_wp2_with fail
        go_quiet (fail)
        go_wp2
        go_roundw
        case rel => exact ⟨i + 1, by go_num, by omega, below_drewN hbr _⟩
        case measure => simp [intOf]; omega
      · have hr' : ¬ yr < 0 := fun h => hr (h3.2 h)
        have hd1 : decide (xr < 0) = false := decide_eq_false hr
        have hd2 : decide (yr < 0) = false := decide_eq_false hr'
        clear h3
        go_wp2_with fail
        go_quiet (fail)
        go_wp2
        go_roundw
        case rel => exact ⟨i + 1, by go_num, by omega, below_drewN hbr _⟩
        case measure => simp [intOf]; omega
    · obtain rfl : i = n := by omega
      go_wp2
      go_ret
      exact ⟨rfl, hbr⟩

end Pr
end Go.Proofs.YtpgcidpghmoibaaGreatDoor

namespace Go.Proofs.YtpgcidpghmoibaaGreatDoor
namespace Pr
open Go.RowKit
open G (PNode)

/-- What Cut answers of a text: its segments, or that it is long. -/
def CutIs (T : List PNode) (Q : List Nat) (t : ByteArray) (l : List G.Seg) (g : Int) : Prop :=
  (t.size ≤ 1000 ∧ g = 0 ∧ G.CutR T Q t 0 l) ∨ (1000 < t.size ∧ g = 1 ∧ l = [])
theorem CutIs.one {T : List PNode} {Q : List Nat} {t : ByteArray} {l l' : List G.Seg} {g g' : Int} (h : CutIs T Q t l g) (h' : CutIs T Q t l' g') : l = l' ∧ g = g' := by
  rcases h with ⟨h1, h2, h3⟩ | ⟨h1, h2, h3⟩ <;> rcases h' with ⟨k1, k2, k3⟩ | ⟨k1, k2, k3⟩
  · exact ⟨h3.one k3, by rw [h2, k2]⟩
  · omega
  · omega
  · exact ⟨by rw [h3, k3], by rw [h2, k2]⟩
theorem CutIs.few {T : List PNode} {Q : List Nat} {t : ByteArray} {l : List G.Seg} {g : Int} (h : CutIs T Q t l g) : l.length ≤ 1000 := by
  rcases h with ⟨h1, _, h3⟩ | ⟨_, _, rfl⟩
  · have := Rf.cut_few h3
    have h2 := U.units_length t
    rw [G.us_len] at this
    omega
  · simp
/-- The segments lie one behind the other, to the text's end. -/
theorem CutIs.chain {T : List PNode} {Q : List Nat} {t : ByteArray} {l : List G.Seg} {g : Int} (h : CutIs T Q t l g) : ∃ z, G.Chain 0 l z ∧ ((g = 0 ∧ z = t.size) ∨ (g = 1 ∧ l = [])) := by
  rcases h with ⟨_, h2, h3⟩ | ⟨_, h2, rfl⟩
  · exact ⟨t.size, h3.chain0, .inl ⟨h2, rfl⟩⟩
  · exact ⟨0, rfl, .inr ⟨h2, rfl⟩⟩
def CutAll (w : World) (T : List PNode) (Q : List Nat) (t : ByteArray) (e : Ending) (w' : World) : Prop :=
  (∃ v l g, e = .returned (.tuple #[v, .int .i64 g]) ∧ w'.ownsRow 0 65 3 v l.length (Rf.segs l) ∧ CutIs T Q t l g) ∧ Below w.heap.size w w'
theorem cut_all (w : World) (b : Nat) (T : List PNode) (Q : List Nat) (h : RuP w b T Q) (t : ByteArray) (ht : t.size ≤ maxLen) : Calls Tryz.prog 27 #[pv b, .string t] w fun e w' => CutAll w T Q t e w' := by
  by_cases hs : 1000 < t.size
  · refine (pcut_long w b t hs ht).mono ?_
    rintro e w' ⟨rfl, rfl⟩
    exact ⟨⟨_, [], 1, rfl, World.ownsRow_nil _ _ _ _, .inr ⟨hs, rfl, rfl⟩⟩, Below.refl _ _⟩
  · obtain ⟨m, I, v, V, P, f, hp⟩ := h.pin
    refine (pcut_short w b m I v V T Q P f hp t (by omega)).mono ?_
    rintro e w' ⟨⟨vo, l, rfl, hc, ho⟩, hb⟩
    exact ⟨⟨vo, l, 0, rfl, Rf.own_zero ho, .inl ⟨by omega, rfl, hc⟩⟩, hb⟩

end Pr
end Go.Proofs.YtpgcidpghmoibaaGreatDoor
