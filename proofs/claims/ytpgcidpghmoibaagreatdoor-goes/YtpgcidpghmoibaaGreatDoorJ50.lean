/-
  THE REFERENCE's Over: a cursor over the segments of a text; and its Last. Conditions: of Over: the rules may be asked; the text has at most 1000 bytes (or more: then nothing is cut). Of Last: the cursor has boundaries.
-/
import Derived.Test.YtpgcidpghmoibaaGreatDoorJ49
import Derived.Test.YtpgcidpghmoibaaGreatDoorJ25
import Derived.Deep.Cut
namespace Go.Proofs.YtpgcidpghmoibaaGreatDoor
namespace Rf
open Go.RowKit
open Cs
open G (PNode)

theorem seg_to {w : World} {la : Option Addr} {n lc : Nat} {l : List G.Seg} (h : w.ownsRow 0 65 3 (.slice la n lc) n (segs l)) {k : Nat} {x : G.Seg} (hx : l[k]? = some x) (hk : k < n) :
    ∃ g, la = some ⟨g, 0, none⟩ ∧ ∀ wr, Below w.heap.size w wr → wr.cell? ⟨g, k * 3, none⟩ = some (.int .i64 (x.f : Int)) ∧ wr.cell? ⟨g, k * 3 + 1, none⟩ = some (.int .i64 (x.t : Int)) ∧ wr.cell? ⟨g, k * 3 + 2, none⟩ = some (.int .i64 x.r) := by
  obtain ⟨g, cap, hv, _, hlt⟩ := h.form (by omega)
  simp only [Value.slice.injEq] at hv
  obtain ⟨rfl, _, rfl⟩ := hv
  refine ⟨g, rfl, fun wr hb => ?_⟩
  have key : ∀ o u, o < 3 → (scell3 x)[o]? = some u → wr.cell? ⟨g, k * 3 + o, none⟩ = some u := by
    intro o u ho hu
    rw [hb.cell (p := ⟨g, k * 3 + o, none⟩) hlt, h.cellAt _ (by omega)]
    rw [← hu]
    exact flat_get scell3 3 (fun _ => rfl) l k o x hx ho
  exact ⟨key 0 _ (by omega) rfl, key 1 _ (by omega) rfl, key 2 _ (by omega) rfl⟩
theorem cut_few {T : List PNode} {Q : List Nat} {s : ByteArray} {k : Nat} {l : List G.Seg} (h : G.CutR T Q s k l) : l.length + k ≤ (G.us s).length := by
  induction h with
  | done h => simp [h]
  | cons h1 h2 h3 ih =>
    simp only [List.length_cons]
    omega
theorem bnds_snoc (p : Nat) (l : List G.Seg) (k : Nat) (x : G.Seg) (hx : l[k]? = some x) : G.bnds p (l.take (k + 1)) = G.bnds p (l.take k) ++ [x.t] := by
  obtain ⟨hk, rfl⟩ := List.getElem?_eq_some_iff.1 hx
  unfold G.bnds
  rw [List.take_succ_eq_append_getElem hk, List.map_append]
  rfl
theorem cut_bn {T : List PNode} {Q : List Nat} {s : ByteArray} {l : List G.Seg} (h : G.CutR T Q s 0 l) (hs : s.size ≤ 1000) : Bn (G.bnds 0 l) := by
  refine ⟨h.chain0.asc, rfl, ?_⟩
  have h1 := cut_few h
  have h2 := U.units_length s
  rw [G.us_len] at h1
  rw [G.bnds_len]
  omega

set_option maxRecDepth 100000 in
set_option maxHeartbeats 1000000 in
theorem rover_long (w : World) (b : Nat) (s : ByteArray) (hs : 1000 < s.size) (hm : s.size ≤ maxLen) :
    Calls Tryz.prog 34 #[.pointer (some ⟨b, 0, none⟩), .string s] w fun e w' => (∃ c, e = .returned (.tuple #[.pointer (some ⟨c, 0, none⟩), .int .i64 1])) ∧ Below w.heap.size w w' := by
  go_enter Tryz.func34, Tryz.ntmps34
  go_wp2_with (go_at_call 58; refine (rcut_long w b s hs hm).mono ?_; rintro e w2 ⟨rfl, rfl⟩)
  go_loopw [9] (fun vi wr => vi = .int .i64 0 ∧ Below w2.heap.size w2 wr) (fun _ _ => 0)
  case atStart => exact ⟨rfl, ((Below.refl _ _).alloc (Nat.le_refl _) _).alloc (by simp) _⟩
  case round =>
    obtain ⟨rfl, hb⟩ := hrel
    go_wp2
    go_ret2
    exact ⟨⟨_, rfl⟩, hb⟩

set_option maxRecDepth 100000 in
set_option maxHeartbeats 2000000 in
theorem rover_short (w : World) (b : Nat) (T : List PNode) (Q : List Nat) (L : List PState) (B F : List Nat) (I : Nat → Prop) (hR : RIn w b T Q L B F I) (s : ByteArray) (hs : s.size ≤ 1000) :
    Calls Tryz.prog 34 #[.pointer (some ⟨b, 0, none⟩), .string s] w fun e w' => (∃ c v l, e = .returned (.tuple #[.pointer (some ⟨c, 0, none⟩), .int .i64 0]) ∧ G.CutR T Q s 0 l ∧ Cu 84 w' c v (G.bnds 0 l) 0 ∧ w.heap.size ≤ c ∧ (∀ k, v.ownBlock = some k → w.heap.size ≤ k)) ∧ Below w.heap.size w w' := by
  obtain ⟨i0, hi, hz0, hz1, hz2⟩ := info_parts infoInt
  have hul := U.units_length s
  go_enter Tryz.func34, Tryz.ntmps34
  go_wp2_with (go_at_call 58; refine (rcut_short w b T Q L B F I hR s hs).mono ?_; rintro e w2 ⟨⟨v2, l, rfl, hcut, ho⟩, hb2⟩; obtain ⟨a2, d2, hv2⟩ := own_len ho; subst hv2)
  have z2 := hb2.size
  have o2 := own_zero ho
  have hfew := cut_few hcut
  rw [G.us_len] at hfew
  have hc0 : Cu 84 ((w2.alloc (.cells #[.int .i64 0] 3)).alloc (.cells #[.slice (some ⟨w2.heap.size, 0, none⟩) 1 1, .int .i64 0] 84)) (w2.heap.size + 1) (.slice (some ⟨w2.heap.size, 0, none⟩) 1 1) (G.bnds 0 (l.take 0)) 0 := by
    refine ⟨?_, ?_, ?_⟩
    · have := heap_alloc_new (w2.alloc (.cells #[.int .i64 0] 3)) (.cells #[.slice (some ⟨w2.heap.size, 0, none⟩) 1 1, .int .i64 0] 84)
      simpa using this
    · have := own_new w2 0 3 1 1 #[.int .i64 0] (Nat.zero_le _) rfl (by unfold maxLen; omega)
      exact own_same this (fun k e => Below.heap_alloc _ _ _ (this.lt k e).2)
    · simp [Value.ownBlock]
  go_loopw [9] (fun vi wr => ∃ (k : Nat) (v : Value), vi = .int .i64 k ∧ k ≤ l.length ∧ Cu 84 wr (w2.heap.size + 1) v (G.bnds 0 (l.take k)) 0 ∧ (∀ j, v.ownBlock = some j → w2.heap.size ≤ j) ∧ Below w2.heap.size w2 wr) (fun vi _ => l.length - (intOf vi).toNat)
  case atStart => exact ⟨0, _, rfl, Nat.zero_le _, hc0, fun j e => by simp [Value.ownBlock] at e; omega, ((Below.refl _ _).alloc (Nat.le_refl _) _).alloc (by simp) _⟩
  case round =>
    obtain ⟨k, v, rfl, hk, hC, hv, hbr⟩ := hrel
    by_cases hlt : k < l.length
    · have hx : l[k]? = some l[k] := List.getElem?_eq_getElem hlt
      generalize l[k] = x at hx
      obtain ⟨g1, rfl, cs⟩ := seg_to o2 hx hlt
      have e1 := (cs wr hbr).2.1
      have hBl : (G.bnds 0 (l.take k)).length = k + 1 := by rw [G.bnds_len, List.length_take]; omega
      obtain ⟨va, vc, hve⟩ := own_len hC.row
      subst hve
      have c0 := cell_blk hC.blk 0 (.slice va (G.bnds 0 (l.take k)).length vc) rfl
      have hcl := lt_of_block hC.blk
      have hne := hC.ne
      have orow := hC.row
      rw [hBl] at c0 hne orow
      have HS : Hid _ := bnds_snoc 0 l k x hx
      have HC : Hid _ := And.intro hC (And.intro hv hbr)
      have zr := hbr.size
      clear hC hv hbr cs hc0
      rw [hBl] at HC
      go_upto_region 6 with fail
      go_region_law
        ((refine step_append_lies _ (by rfl) _ _ _ (by rfl) 0 3 i0 _ 1 8 Tryz.underlying33 hi hz0 hz1 hz2 rfl (by omega) (.slice va (k + 1) vc) (k + 1) (bV (G.bnds 0 (l.take k))) (by rfl) ((orow.alloc _).drew)
            ⟨wr.heap.size, 0, none⟩ 1 1 [.int .i64 (x.t : Int)] (by rfl) (by rfl) (World.news_of_block (cs := #[.int .i64 (x.t : Int)]) (t := 3) (fr := (0, 0)) (heap_alloc_new wr _)) (by simp [Value.oneCell'])
            (by omega) (by unfold maxLen; omega) (by omega) (by simp) (wr.heap.size + 1) (by simp) ?_; intro g2 cap2 w4 hn2 hg2 hat2 hlt2; have hb4 : w4.heap[w2.heap.size + 1]? = _ := (hg2.block (w2.heap.size + 1) (by simp; omega) (fun e => hne e.symm)).trans ((Below.heap_alloc _ _ _ hcl).trans HC.out.1.blk); have fb2' := free_blk hb4 0; have cb2' := cell_blk hb4 0 (.slice va (k + 1) vc) rfl; clear hb4))
      all_goals
        have hfin := HC.out.1.grow (v' := .slice (some ⟨g2, 0, none⟩) (k + 1 + 1) cap2) (x := x.t) (((Kept.refl _ _).alloc _).drew) hg2 (lies_of hat2 (by omega)) (by rw [hBl]; exact hn2)
        have hnew : ∀ j, (Value.slice (some ⟨g2, 0, none⟩) (k + 1 + 1) cap2).ownBlock = some j → w2.heap.size ≤ j := fun j e => by
          rcases lies_of (w := wr) hat2 (by omega) j e with h | h
          · exact HC.out.2.1 j h
          · omega
        have hbel : Below w2.heap.size w2 (w4.setCell ⟨w2.heap.size + 1, 0, none⟩ (.slice (some ⟨g2, 0, none⟩) (k + 1 + 1) cap2)) := (((((Kept.of_below (p := fun _ => True) HC.out.2.2).alloc _).drew).grown hg2 (fun j e hj _ => by have := HC.out.2.1 j e; omega)).setNew (q := ⟨w2.heap.size + 1, 0, none⟩) (by show _ ≤ w2.heap.size + 1; omega) _).all
        rw [← HS.out] at hfin
        have HF : Hid _ := And.intro hfin (And.intro hnew hbel)
        clear hfin hnew hbel hn2 hg2 hat2 hlt2 fb2' cb2' c0 e1
        generalize w4.setCell ⟨w2.heap.size + 1, 0, none⟩ (.slice (some ⟨g2, 0, none⟩) (k + 1 + 1) cap2) = w5 at HF ⊢
        go_wp2
        go_roundw
        case rel => exact ⟨k + 1, _, by go_num, by omega, HF.out.1, HF.out.2.1, HF.out.2.2⟩
        case measure => simp [intOf]; omega
    · obtain rfl : k = l.length := by omega
      go_wp2
      go_ret2
      rw [List.take_length] at hC
      exact ⟨⟨_, v, l, rfl, hcut, hC, by omega, fun j e => by have := hv j e; omega⟩, hb2.trans (hbr.mono z2)⟩

set_option maxRecDepth 100000 in
set_option maxHeartbeats 1000000 in
theorem rlast_any (w : World) (c : Nat) (v : Value) (B : List Nat) (a z : Nat) (h : Cu 84 w c v B a) (hB : Bn B) (hz : B[B.length - 1]? = some z) :
    Calls Tryz.prog 64 #[.pointer (some ⟨c, 0, none⟩)] w fun e w' => MovesTo 84 w c v B a (z : Int) e w' := by
  have hpos := hB.pos
  have hfew := hB.few
  have hd : Cu 84 w.drew c v B a := h.same (fun _ _ => rfl)
  have hg := goes_any w.drew c v B a hd (z : Int) (.inl ⟨z, rfl⟩)
  obtain ⟨g, cap, rfl, hgc, cell⟩ := h.cells hpos
  have c0 := cell_blk h.blk 0 (.slice (some ⟨g, 0, none⟩) B.length cap) rfl
  have cz := cell (B.length - 1) z hz
  obtain ⟨N, hN⟩ : ∃ N, B.length = N + 1 := ⟨B.length - 1, by omega⟩
  rw [show B.length - 1 = N by omega] at cz
  have hn1 : IntKind.i64.wrap ((B.length : Int) - 1) = (N : Int) := by rw [IntKind.wrap_i64]; omega
  have hn3 : (N : Int) < (B.length : Int) := by omega
  have hn4 : (0 : Int) ≤ (N : Int) := by omega
  have hn5 : ¬ (N : Int) < 0 := by omega
  have hn7 : N < B.length := by omega
  generalize B.length = n at *
  clear hN
  clear cell h hd hz hpos hfew
  go_enter Tryz.func64, Tryz.ntmps64
  go_wp2_with fail
  go_region_with (go_at_call 90; refine hg.mono ?_; rintro e w2 ⟨rfl, h2, h3⟩)
  all_goals
    go_wp2
    go_ret
    exact ⟨rfl, h2, (Kept.refl _ _).drew.trans h3⟩

end Rf
end Go.Proofs.YtpgcidpghmoibaaGreatDoor
