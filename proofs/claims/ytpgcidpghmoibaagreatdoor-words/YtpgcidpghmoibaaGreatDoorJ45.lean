/-
  THE PROGRAM's Match: the walk: the longest match at a place. Conditions: rules that Compile gave; the text is no longer than a string can be.
  RULES OF BOTH SIDES, ready to be asked for matches. Nothing of the program is run here. Conditions: rules of both sides that mean the same.
  THE LAW's HELPER sure: the source of one rule is read, and cuts a word off. Condition: the library's tables lie in memory as the text lays them.
-/
import Derived.Test.YtpgcidpghmoibaaGreatDoorJ44
import Derived.Test.YtpgcidpghmoibaaGreatDoorJ40
import Derived.Test.YtpgcidpghmoibaaGreatDoorJ25
namespace Go.Proofs.YtpgcidpghmoibaaGreatDoor
namespace Pr
open Go.RowKit
open Rf (Kept Lies MatchV)
open G (PNode)

set_option maxRecDepth 100000 in
set_option maxHeartbeats 1000000 in
theorem pmatch_long (w : World) (b : Nat) (s : ByteArray) (a : Int) (hs : 1000 < s.size) (hm : s.size ≤ maxLen) :
    Calls Tryz.prog 37 #[pv b, .string s, .int .i64 a] w fun e w' => e = .returned (.tuple #[.agg #[.int .i64 0, .int .i64 0, .int .i64 0], .int .i64 1]) ∧ Below w.heap.size w w' := by
  go_enter Tryz.func37, Tryz.ntmps37
  go_wp2_with (go_at_call 24; refine (units_long s _ hs hm).mono ?_; rintro e w2 ⟨rfl, rfl⟩)
  exact bodyPost_ret (v := .tuple #[.agg #[.int .i64 0, .int .i64 0, .int .i64 0], .int .i64 1]) (by simp [results, Tryz.results37, go_sem]) rfl ⟨rfl, (Below.refl _ w).alloc (Nat.le_refl _) _⟩

set_option maxRecDepth 100000 in
set_option maxHeartbeats 2000000 in
theorem pmatch_short (w : World) (b m : Nat) (I : Nat → Prop) (v : Value) (V : List Value) (T : List PNode) (Q : List Nat) (P : List Pl) (f : PB) (hP : PIn w b m I v V T Q P f) (s : ByteArray) (a : Int) (hs : s.size ≤ 1000) :
    Calls Tryz.prog 37 #[pv b, .string s, .int .i64 a] w fun e w' => (∃ g : G.Seg, MatchV T Q s a g ∧ e = .returned (.tuple #[.agg #[.int .i64 (g.f : Int), .int .i64 (g.t : Int), .int .i64 g.r], .int .i64 0])) ∧ Below w.heap.size w w' := by
  obtain ⟨j0, hj, hy⟩ := Option.map_eq_some_iff.1 infoInt
  simp only [Prod.mk.injEq] at hy
  obtain ⟨hy0, hy1, hy2⟩ := hy
  have hul := U.units_length s
  have hbx := heap_alloc_new w (.cells #[.int .i64 0, .int .i64 0, .int .i64 0] 65)
  have hb0 : Below w.heap.size w (w.alloc (.cells #[.int .i64 0, .int .i64 0, .int .i64 0] 65)) := (Below.refl _ w).alloc (Nat.le_refl _) _
  have HBX : Hid _ := And.intro hb0 hbx
  clear hbx hb0
  go_enter Tryz.func37, Tryz.ntmps37
  go_wp2_with (first
    | (go_at_call 70
       refine hUa.mono ?_
       rintro e w4 ⟨⟨k, hUn, rfl⟩, rfl⟩)
    | (at_builtin
       refine wpList_append_own_at _ rfl (.tmp 25) (.tmp 28) 33 rfl (w.heap.size + 1 + 1) 3 j0 (.int .i64 0) 1 8 Tryz.underlying33 hj hy0 hy1 hy2 rfl (by decide) _ _ _ rfl (ho2.alloc _) ⟨w2.heap.size, 0, none⟩ 1 1 [.int .i64 (s.size : Int)] rfl rfl (cell_one_new _ _ _) (fun x hx => by simp at hx; subst hx; rfl) (by unfold maxLen; omega) (by omega) (by have := hb2.size; simp at this ⊢; omega) ?_
       intro v3 w3 hn3 hg3 _ hat3
       have o1 := (ho1.alloc (.cells #[.int .i64 (s.size : Int)] 3)).kept hg3 (apart_of_types (ho2.alloc (.cells #[.int .i64 (s.size : Int)] 3)) (ho1.alloc (.cells #[.int .i64 (s.size : Int)] 3)) (by decide))
       have hz2 := hb2.size
       have hb3 : Below (w.heap.size + 1) (w.alloc (.cells #[.int .i64 0, .int .i64 0, .int .i64 0] 65)) w3 := Below.grown (((by simpa using hb2 : Below (w.heap.size + 1) _ w2)).alloc (by simp at hz2; omega) _) hg3 (by simp at hz2 ⊢; omega) (fun k hk => by have := (ho2.lt k hk).1; omega)
       obtain ⟨g3, c3, hf3, _, _⟩ := hn3.form (by omega)
       subst hf3
       have hUa := uat_any w3 s hs _ g3 c3 hn3 a
       clear ho1 ho2 hg3 hat3)
    | (go_at_call 24
       refine (units_short s _ hs).mono ?_
       rintro e w2 ⟨v1, v2, rfl, ho1, ho2, hb2⟩
       simp only [show (w.alloc (.cells #[.int .i64 0, .int .i64 0, .int .i64 0] 65)).heap.size = w.heap.size + 1 by simp] at ho1 ho2
       obtain ⟨q1, c1, he1⟩ := Rf.own_len ho1
       obtain ⟨q2, c2, he2⟩ := Rf.own_len ho2
       subst he1 he2))
  have hb4 : Below w.heap.size w w4 := HBX.out.1.trans (hb3.mono (Nat.le_succ _))
  have hbx4 := (hb3.block w.heap.size (Nat.lt_succ_self _)).trans HBX.out.2
  have hP4 := hP.below hb4
  have p1 := hP4.blk.mach
  have hbl4 := hP4.blk.lt
  have hsd : ((G.us s).drop k).length = (U.units s).length - k := by rw [List.length_drop, G.us_len]
  have hkl := hUn.1
  rw [G.us_len] at hkl
  have hRun : ∀ w' : World, w'.heap = w4.heap → Below w4.heap.size w4 w' → Calls Tryz.prog 61 #[pv m] w' fun e w5 => ∃ br bm, e = .returned (pv br) ∧ RunAt w5 I br m bm v P V f ∧ Memo w5 bm 0 P ∧ Below w4.heap.size w4 w5 ∧ w4.heap.size ≤ bm := fun w' hw hbw => by
    refine (mrun_any w' I m v P V f (hP4.ma.same (fun k _ => by rw [hw])) (fun k e => by rw [hw]; exact hP4.lt k e)).mono ?_
    rintro e w5 ⟨br, bm, h1, h2, h3, h4, h5⟩
    have hsz : w'.heap.size = w4.heap.size := by rw [hw]
    exact ⟨br, bm, h1, h2, h3, hbw.trans (by rw [hsz] at h4; exact h4), by omega⟩
  have HU : Hid _ := hUn
  clear hUn HBX hUa hP
  by_cases hkn : k < (U.units s).length
  · obtain ⟨g1, cap1, hf, _, _⟩ := o1.form (by omega)
    simp only [Value.slice.injEq] at hf
    obtain ⟨rfl, _, rfl⟩ := hf
    have hcl := Rf.own_cap o1
    have hck : ¬ c1 = k := by omega
    have hg1 := (o1.lt g1 rfl).2
    have hLo : ∀ (w5 : World) (br bm : Nat), Below w4.heap.size w4 w5 → w4.heap.size ≤ bm → RunAt w5 I br m bm v P V f → Memo w5 bm 0 P → Calls Tryz.prog 62 #[pv br, .slice (some ⟨g1, k, none⟩) ((U.units s).length - k) (c1 - k)] w5 fun e w' => (∃ (n : Nat) (r : Int), e = .returned (.tuple #[.int .i64 (n : Int), .int .i64 r]) ∧ G.Long T Q ((G.us s).drop k) n r) ∧ Below w4.heap.size w4 w' := fun w5 br bm hb5 hbm hru hme => by
      have h := plong_any w5 I br m bm 0 v T Q P V f hru hme hP4.few hP4.sem ((G.us s).drop k) (by rw [hsd]; omega) (by omega) (fun c hc => us_bound s c (List.mem_of_mem_drop hc)) (some ⟨g1, k, none⟩) (c1 - k) (puat_drop (Rf.own_sameB o1 (fun i e => hb5.block i (o1.lt i e).2)) k _ (Nat.lt_of_lt_of_le hg1 hb5.size)) (fun g off e => by simp only [Option.some.injEq, Addr.mk.injEq] at e; have := e.1; omega)
      rw [hsd] at h
      refine h.mono ?_
      rintro e w' ⟨h1, _, hk⟩
      exact ⟨h1, hb5.trans ⟨hk.os, hk.tape, hk.output, by have := hk.size; have := hb5.size; omega, fun i hi => hk.block i (Nat.lt_of_lt_of_le hi hb5.size) (show i ≠ bm by omega)⟩⟩
    go_region_with (first
      | (go_at_call 62; refine (hLo _ br bm hb5 hbm hru hme).mono ?_; rintro e w6 ⟨⟨n, r, rfl, hLn⟩, hb6⟩)
      | (go_at_call 61; refine (hRun w4.drew rfl (Below.refl _ w4).drew).mono ?_; rintro e w5 ⟨br, bm, rfl, hru, hme, hb5, hbm⟩))
    all_goals
      have hnl := hLn.le
      rw [hsd] at hnl
      have hn36 := Rf.own_sameB hn3 (fun i e => hb6.block i (hn3.lt i e).2)
      have e0 : w6.cell? ⟨g3, k, none⟩ = some (.int .i64 (G.edge s k : Int)) := own_cell' hn36 k (edgesV_get s k (by omega))
      have e1 : w6.cell? ⟨g3, k + n, none⟩ = some (.int .i64 (G.edge s (k + n) : Int)) := own_cell' hn36 (k + n) (edgesV_get s (k + n) (by omega))
      have bx6 := (hb6.block _ (lt_of_block hbx4)).trans hbx4
      have z0 := Rf.cell_blk bx6 0 (.int .i64 0) rfl
      have z1 := Rf.cell_blk bx6 1 (.int .i64 0) rfl
      have z2 := Rf.cell_blk bx6 2 (.int .i64 0) rfl
      have zf := fun o => Rf.free_blk bx6 o
      have hi3 : (k : Int) < ((U.units s).length : Int) + 1 := by omega
      have hi4 : (k : Int) + (n : Int) < ((U.units s).length : Int) + 1 := by omega
      have hi5 : (0 : Int) ≤ (k : Int) := by omega
      have hi6 : (0 : Int) ≤ (k : Int) + (n : Int) := by omega
      have htn : ((k : Int) + (n : Int)).toNat = k + n := by omega
      have hwr : IntKind.i64.wrap ((k : Int) + (n : Int)) = (k : Int) + (n : Int) := by rw [IntKind.wrap_i64]; omega
      have hb6w := hb4.trans (hb6.mono hb4.size)
      go_wp2
      go_region
      all_goals
        go_wp2
        refine bodyPost_ret (v := .tuple #[.agg #[.int .i64 (G.edge s k : Int), .int .i64 (G.edge s (k + n) : Int), .int .i64 r], .int .i64 0]) (by simp [results, Tryz.results37, go_sem, z0, z1, z2]) rfl ⟨⟨⟨_, _, r⟩, ⟨k, n, r, HU.out, hLn, rfl⟩, rfl⟩, ?_⟩
        exact ((hb6w.drew.setCell (by simp) _).setCell (by simp) _).setCell (by simp) _
  · have hdr : (G.us s).drop k = [] := List.drop_of_length_le (by rw [G.us_len]; omega)
    have hzk : (U.units s).length - k = 0 := by omega
    have hLo : ∀ (pu : Option Addr) (cu : Nat) (w5 : World) (br bm : Nat), (∀ g off, pu = some ⟨g, off, none⟩ → g < w4.heap.size) → Below w4.heap.size w4 w5 → w4.heap.size ≤ bm → RunAt w5 I br m bm v P V f → Memo w5 bm 0 P → Calls Tryz.prog 62 #[pv br, .slice pu 0 cu] w5 fun e w' => (∃ (n : Nat) (r : Int), e = .returned (.tuple #[.int .i64 (n : Int), .int .i64 r]) ∧ G.Long T Q [] n r) ∧ Below w4.heap.size w4 w' := fun pu cu w5 br bm hpu hb5 hbm hru hme => by
      have h := plong_any w5 I br m bm 0 v T Q P V f hru hme hP4.few hP4.sem [] (by simp) (by omega) (fun c hc => by simp at hc) pu cu ⟨fun i c hc => by simp at hc⟩ (fun g off e => by have := hpu g off e; omega)
      refine h.mono ?_
      rintro e w' ⟨h1, _, hk⟩
      exact ⟨h1, hb5.trans ⟨hk.os, hk.tape, hk.output, by have := hk.size; have := hb5.size; omega, fun i hi => hk.block i (Nat.lt_of_lt_of_le hi hb5.size) (show i ≠ bm by omega)⟩⟩
    rcases o1.2 with ⟨hv0, hn0⟩ | ⟨g1, cap1, cur, hv0, _, hg1, _⟩
    · simp only [Value.slice.injEq] at hv0
      obtain ⟨rfl, _, rfl⟩ := hv0
      have hk0 : k = 0 := by omega
      go_region_with (first
        | (go_at_call 62; refine (hLo none 0 _ br bm (fun _ _ e => by cases e) hb5 hbm hru hme).mono ?_; rintro e w6 ⟨⟨n, r, rfl, hLn⟩, hb6⟩)
        | (go_at_call 61; refine (hRun w4.drew rfl (Below.refl _ w4).drew).mono ?_; rintro e w5 ⟨br, bm, rfl, hru, hme, hb5, hbm⟩))
      all_goals
        have hnl := hLn.le
        rw [List.length_nil] at hnl
        obtain rfl : n = 0 := by omega
        have hn36 := Rf.own_sameB hn3 (fun i e => hb6.block i (hn3.lt i e).2)
        have e0 : w6.cell? ⟨g3, 0, none⟩ = some (.int .i64 (G.edge s 0 : Int)) := own_cell' hn36 0 (edgesV_get s 0 (by omega))
        have bx6 := (hb6.block _ (lt_of_block hbx4)).trans hbx4
        have z0 := Rf.cell_blk bx6 0 (.int .i64 0) rfl
        have z1 := Rf.cell_blk bx6 1 (.int .i64 0) rfl
        have z2 := Rf.cell_blk bx6 2 (.int .i64 0) rfl
        have zf := fun o => Rf.free_blk bx6 o
        have hb6w := hb4.trans (hb6.mono hb4.size)
        have HK : Hid (k = 0) := hk0
        clear hk0
        have hwr : IntKind.i64.wrap 0 = 0 := by rw [IntKind.wrap_i64]; rfl
        go_wp2
        go_region
        all_goals
          go_wp2
          have hU0 := HU.out
          rw [HK.out] at hU0 hdr
          refine bodyPost_ret (v := .tuple #[.agg #[.int .i64 (G.edge s 0 : Int), .int .i64 (G.edge s 0 : Int), .int .i64 r], .int .i64 0]) (by simp [results, Tryz.results37, go_sem, z0, z1, z2]) rfl ⟨⟨⟨_, _, r⟩, ⟨0, 0, r, hU0, by rw [hdr]; exact hLn, rfl⟩, rfl⟩, ?_⟩
          exact ((hb6w.drew.setCell (by simp) _).setCell (by simp) _).setCell (by simp) _
    · simp only [Value.slice.injEq] at hv0
      obtain ⟨rfl, _, rfl⟩ := hv0
      have hg1l := lt_of_block hg1
      have hcl := Rf.own_cap o1
      by_cases hcN : c1 = k
      all_goals
        go_region_with (first
          | (go_at_call 62; refine (hLo _ _ _ br bm (fun g off e => by simp only [Option.some.injEq, Addr.mk.injEq] at e; have := e.1; omega) hb5 hbm hru hme).mono ?_; rintro e w6 ⟨⟨n, r, rfl, hLn⟩, hb6⟩)
          | (go_at_call 61; refine (hRun w4.drew rfl (Below.refl _ w4).drew).mono ?_; rintro e w5 ⟨br, bm, rfl, hru, hme, hb5, hbm⟩))
      all_goals
        have hnl := hLn.le
        rw [List.length_nil] at hnl
        obtain rfl : n = 0 := by omega
        have hn36 := Rf.own_sameB hn3 (fun i e => hb6.block i (hn3.lt i e).2)
        have e0 : w6.cell? ⟨g3, k, none⟩ = some (.int .i64 (G.edge s k : Int)) := own_cell' hn36 k (edgesV_get s k (by omega))
        have bx6 := (hb6.block _ (lt_of_block hbx4)).trans hbx4
        have z0 := Rf.cell_blk bx6 0 (.int .i64 0) rfl
        have z1 := Rf.cell_blk bx6 1 (.int .i64 0) rfl
        have z2 := Rf.cell_blk bx6 2 (.int .i64 0) rfl
        have zf := fun o => Rf.free_blk bx6 o
        have hi3 : (k : Int) < ((U.units s).length : Int) + 1 := by omega
        have hi5 : (0 : Int) ≤ (k : Int) := by omega
        have htn : ((k : Int)).toNat = k := by omega
        have hwr : IntKind.i64.wrap (k : Int) = (k : Int) := by rw [IntKind.wrap_i64]; omega
        have hb6w := hb4.trans (hb6.mono hb4.size)
        go_wp2
        go_region
        all_goals
          go_wp2
          refine bodyPost_ret (v := .tuple #[.agg #[.int .i64 (G.edge s k : Int), .int .i64 (G.edge s k : Int), .int .i64 r], .int .i64 0]) (by simp [results, Tryz.results37, go_sem, z0, z1, z2]) rfl ⟨⟨⟨_, _, r⟩, ⟨k, 0, r, HU.out, by rw [hdr]; exact hLn, rfl⟩, rfl⟩, ?_⟩
          exact ((hb6w.drew.setCell (by simp) _).setCell (by simp) _).setCell (by simp) _

end Pr
end Go.Proofs.YtpgcidpghmoibaaGreatDoor

namespace Go.Proofs.YtpgcidpghmoibaaGreatDoor
namespace Rf
open G (PNode)
theorem AllR.len {T : List PNode} (hT : G.WF T) {qs : List Nat} {L L' : List PState} {B F B' F' : List Nat} (h : AllR T qs L B F L' B' F') : (∀ q ∈ qs, q < T.length) → 1 ≤ L.length → L'.length ≤ L.length + 4 * G.pls T qs := by
  induction h with
  | nil => intro _ _; simp [G.pls]
  | @cons q qs L B F r L1 L' B' F' hm hr ih =>
    intro hq h1
    have f1 := hm.fine hT (hq q (by simp)) (by omega)
    have i1 := ih (fun p hp => hq p (by simp [hp])) (by have := f1.1; omega)
    have h2 : L1.length + (MT.node q).sl T ≤ L.length + 4 * G.pl T q := f1.2.2.1
    have e : G.pls T (q :: qs) = G.pl T q + G.pls T qs := by simp [G.pls]
    omega
end Rf
namespace Pr
open G (PNode)
theorem Both.rin {w : World} {b q : Nat} {T : List PNode} {Q : List Nat} (h : Both w b q T Q) : ∃ L B F I, Rf.RIn w q T Q L B F I := by
  obtain ⟨S, M, L, B, F, hSa, hAll⟩ := h.rf
  have hA := hAll.all h.wf (fun x hx => by have := h.fe x hx; omega) h.lt
  have hl := hAll.len h.wf h.lt (by simp)
  have hp := G.sizeOf_pls h.wf Q h.lt (by have := h.sz; omega)
  refine ⟨L, B, F, S, Rf.RfAt.of_sa hSa, hA, ?_, by have := h.tl; omega, fun y hy => by have := h.fe y hy; omega, by have := h.few; omega⟩
  have := h.sz
  simp at hl
  omega
theorem Both.pin {w : World} {b q : Nat} {T : List PNode} {Q : List Nat} (h : Both w b q T Q) : ∃ m I v V P f, PIn w b m I v V T Q P f :=
  h.pr.pin h.wf h.lt (by rw [G.len_flatMap, G.sizeOf_pls h.wf Q h.lt h.sz]; exact h.sz)
end Pr
end Go.Proofs.YtpgcidpghmoibaaGreatDoor

namespace Go.Proofs.YtpgcidpghmoibaaGreatDoor
namespace Pr
open Go.RowKit
open G (PNode)

/-- Two segments are one where their numbers are. -/
theorem eqSeg (a b c d e f : Int) (w : World) : (Op.equalIn 10000 65 (.agg #[.int .i64 a, .int .i64 b, .int .i64 c]) (.agg #[.int .i64 d, .int .i64 e, .int .i64 f])).run Tryz.prog w = .ok (a == d && b == e && c == f) w := by
  have u3 := Tryz.underlying3
  have a3 := Tryz.isAgg3
  have z3 := Tryz.sizeOf3
  have hS : Tryz.prog.underlying 65 = some (.struct (Tryz.prog.fieldsOf 65)) := by kernel_rfl
  have hp : Tryz.prog.stoodInHeld 65 = false := by kernel_rfl
  rw [show (10000 : Nat) = 9999 + 1 from rfl, run_equalIn_agg w 9999 65 _ _ hS hp]
  simp only [Program.fieldsOf, Tryz.underlying65]
  go_simp
  by_cases h1 : a = d <;> by_cases h2 : b = e <;> by_cases h3 : c = f <;> simp [h1, h2, h3]

theorem words_wf (w : World) : G.WF G.wordsT ∧ ∀ q ∈ [] ++ [G.wT3.length], q < G.wordsT.length := by
  obtain ⟨e0, w0, _, ⟨_, r0, hsrc0, hpost0⟩, _⟩ := Rf.comp_whole w G.wordsB (by decide) []
  have hr0 := G.words_src.det _ hsrc0
  subst hr0
  obtain ⟨hwf0, hq0, _⟩ := hpost0
  exact ⟨hwf0, hq0⟩
/-- The program reads the word's rule. -/
theorem words_comp (w : World) (hT : Tabs w) : Calls Tryz.prog 13 #[.string ⟨#[91, 97, 45, 122, 93, 43, 59]⟩] w fun e w' => (∃ b m I v V P f, e = .returned (.tuple #[pv b, .int .i64 0, .int .i64 0]) ∧ PIn w' b m I v V G.wordsT ([] ++ [G.wT3.length]) P f) ∧ Below w.heap.size w w' := by
  obtain ⟨hwf, hq⟩ := words_wf w
  refine (pcomp_any w G.wordsB _ (by decide) hT G.words_src (fun _ _ e => by cases e)).mono ?_
  rintro e w' ⟨hb, ⟨hno, _⟩ | ⟨_, b, _, rfl, hp⟩⟩
  · rw [G.words_size] at hno
    simp at hno
  · obtain ⟨m, I, v, V, P, f, h⟩ := hp.pin hwf hq (by rw [G.len_flatMap, G.sizeOf_pls hwf _ hq (by rw [G.words_size]; omega), G.words_size]; omega)
    exact ⟨⟨b, m, I, v, V, P, f, rfl, h⟩, hb⟩

set_option maxRecDepth 100000 in
set_option maxHeartbeats 1000000 in
theorem sure_any (w : World) (hT : Tabs w) : Calls Tryz.prog 20 #[] w fun e w' => e = .returned (.bool true) ∧ Below w.heap.size w w' := by
  have hC := words_comp w hT
  have hwf := (words_wf w).1
  go_enter Tryz.func20, Tryz.ntmps20
  go_wp2_with (first
    | (go_at_call 37
       refine hM.mono ?_
       rintro e w2 ⟨⟨g, hg, rfl⟩, hb2⟩
       have hge : g = ⟨0, 2, 0⟩ := (by
         obtain ⟨k, n, r, hu, hl, rfl⟩ := hg
         have hk := G.ab1_unit hu
         subst hk
         rw [List.drop_zero, G.ab1_us] at hl
         obtain ⟨rfl, rfl⟩ := hl.one (G.ab1_long hwf)
         rw [G.ab1_e0, G.ab1_e2])
       subst hge
       have heq := eqSeg 0 2 0 0 2 0)
    | (go_at_call 13
       refine hC.mono ?_
       rintro e w1 ⟨⟨b, m, I, v, V, P, f, rfl, hP⟩, hb1⟩
       have hM := pmatch_short w1 b m I v V G.wordsT _ P f hP G.ab1 0 (by decide)))
  go_ret
  exact ⟨rfl, (hb1.trans (hb2.mono hb1.size)).alloc (by have := hb1.size; have := hb2.size; omega) _⟩

end Pr
end Go.Proofs.YtpgcidpghmoibaaGreatDoor
