/-
  THE PROGRAM's READER: the walk of quote: what the form says of a quote, as a tree. Conditions: the reader stands at the quote's beginning.
  THE PROGRAM's READER: the walk of quote: what the form says of a quote, as a tree. Conditions: the reader stands at the quote's beginning.
  THE PROGRAM's READER: the walk of part: a range of a set, or an error and its place. Conditions: the source has at most 2000 bytes, the place lies in it; the library's tables lie in memory as the text lays them.
  THE PROGRAM's READER: the walk of set: what the form says of a set, as a tree. Conditions: the reader stands at the set's beginning.
  THE PROGRAM's READER: the walks of name and use: the name behind a dollar sign; what it stands for, or an error and its place. Conditions: the reader stands at the dollar sign.
-/
import Derived.Test.YtnclmcngdcncdaaGreatDoorJ08
namespace Go.Proofs.YtnclmcngdcncdaaGreatDoor
namespace Pr
open Go.RowKit Go.Maps
open Rf (Kept)
open G (PNode)

theorem infoP : (Tryz.prog.info? 102).map (fun i => (i.zero, i.size, i.bytes)) = some (some (.pointer none), 1, 8) := by kernel_rfl

/-- A row of trees of one's own. -/
structure LocP (w : World) (base : Nat) (I : Nat → Prop) (B : List Nat) (v : Value) (ps : List Nat) : Prop where
  own : w.ownsRow base 102 1 v ps.length (ptrs B ps)
  out : ∀ k, v.ownBlock = some k → ¬ I k
theorem LocP.nil (w : World) (base : Nat) (I : Nat → Prop) (B : List Nat) : LocP w base I B (.slice none 0 0) [] := ⟨World.ownsRow_nil _ _ _ _, fun k e => by simp [Value.ownBlock] at e⟩
theorem LocP.gr {w w' : World} {base : Nat} {I : Nat → Prop} {B : List Nat} {v : Value} {ps : List Nat} {b : Nat} (h : LocP w base I B v ps) (hg : Gr b w w') (hb : b < base) : LocP w' base I B v ps :=
  ⟨own_same_at h.own (fun k e => hg.block k (h.own.lt k e).2 (by have := (h.own.lt k e).1; omega)), h.out⟩
theorem LocP.below {w w' : World} {base : Nat} {I : Nat → Prop} {B : List Nat} {v : Value} {ps : List Nat} (h : LocP w base I B v ps) (hg : Below w.heap.size w w') : LocP w' base I B v ps :=
  ⟨own_same_at h.own (fun k e => hg.block k (h.own.lt k e).2), h.out⟩
theorem LocP.ext {w w0 : World} {base : Nat} {B B' : List Nat} {v : Value} {ps : List Nat} {I I' : Nat → Prop} (h : LocP w base I B v ps) (he : Ext w0 I B I' B') (hp : ∀ p ∈ ps, p < B.length) (hl : ∀ k, v.ownBlock = some k → k < w0.heap.size) : LocP w base I' B' v ps :=
  ⟨by rw [he.ptrs hp]; exact h.own, fun k e hk => by
    rcases he.new k hk with h2 | h2
    · exact h.out k e h2
    · have := hl k e
      omega⟩

/-- A row of trees grew by one; what stands beside it. -/
theorem grow_gr {b : Nat} {w0 w w6 : World} {o : Obj} {v : Value} {base : Nat} (hg0 : Gr b w0 w) (hbase : w0.heap.size ≤ base) (hv : ∀ k, v.ownBlock = some k → base ≤ k) (hg : (w.alloc o).grownBy w6 v.ownBlock) : Gr b w0 w6 :=
  (hg0.alloc o).grown hg (fun k e hk => by have := hv k e; omega)
theorem grow_ps {w w6 : World} {b : Nat} {s : ByteArray} {c : C} {bm : Nat} {vR : Value} {I : Nat → Prop} {T : List PNode} {B : List Nat} {E : List (ByteArray × Nat)} {o : Obj} {v : Value} (h : PS w b s c bm vR I T B E) (hg : (w.alloc o).grownBy w6 v.ownBlock) (hI : ∀ k, v.ownBlock = some k → ¬ I k) (hb : v.ownBlock ≠ some b) (hm : v.ownBlock ≠ some bm) (ht : ∀ k, v.ownBlock = some k → Own k) : PS w6 b s c bm vR I T B E := by
  have hk : ∀ k, k < w.heap.size → v.ownBlock ≠ some k → w6.heap[k]? = w.heap[k]? := fun k hk hn => (hg.block k (by simp; omega) (fun e => hn e.symm)).trans (Below.heap_alloc _ _ _ hk)
  have hsz : w.heap.size ≤ w6.heap.size := by have := hg.size; simp at this; omega
  have hkp : Kept (fun k => v.ownBlock ≠ some k) w w6 := ⟨hg.os, hg.tape, hg.output, hsz, hk⟩
  exact {
    rb := h.rb.kept hkp hb
    tr := h.tr.same hsz (fun k hI2 => hk k (h.tr.lt k hI2) (fun e => hI k e hI2))
    env := h.env.kept (hk bm h.env.lt hm)
    tab := h.tab.kept hkp (fun e => (ht _ e).1 rfl) (fun e => (ht _ e).2.1 rfl) (fun e => (ht _ e).2.2 rfl)
    own := h.own, nb := h.nb, nm := h.nm, bb := h.bb, wf := h.wf, el := h.el, ci := h.ci, sz := h.sz }

/-- Blocks from here on are the call's own. -/
structure Base (base b bm : Nat) : Prop where
  b : b < base
  m : bm < base
  t : ∀ k, base ≤ k → Own k
theorem PS.base {w : World} {b : Nat} {s : ByteArray} {c : C} {bm : Nat} {vR : Value} {I : Nat → Prop} {T : List PNode} {B : List Nat} {E : List (ByteArray × Nat)} (h : PS w b s c bm vR I T B E) : Base w.heap.size b bm := by
  obtain ⟨h1, h2, h3⟩ := h.tab.lt
  exact ⟨h.rb.lt, h.env.lt, fun k hk => ⟨by omega, by omega, by omega⟩⟩

theorem LocP.push {w w6 : World} {b : Nat} {s : ByteArray} {c : C} {bm : Nat} {vR : Value} {I : Nat → Prop} {T : List PNode} {B : List Nat} {E : List (ByteArray × Nat)} {base : Nat} {v v1 : Value} {ps : List Nat} {n : Nat} {o : Obj}
    (h : PS w b s c bm vR I T B E) (hB : Base base b bm) (hL : LocP w base I B v ps) (hn1 : w6.ownsRow base 102 1 v1 (ps.length + 1) (ptrs B ps ++ [pv (bl B n)])) (hg : (w.alloc o).grownBy w6 v.ownBlock) (hat : v1.ownBlock = v.ownBlock ∨ v1.ownBlock = some (w.alloc o).heap.size) :
    PS w6 b s c bm vR I T B E ∧ LocP w6 base I B v1 (ps ++ [n]) ∧ ∀ w0 : World, w0.heap.size ≤ base → Gr b w0 w → Gr b w0 w6 := by
  have hk : ∀ k, v.ownBlock = some k → base ≤ k := fun k e => (hL.own.lt k e).1
  have hb := hB.b
  have hm := hB.m
  refine ⟨grow_ps h hg hL.out (fun e => by have := hk b e; omega) (fun e => by have := hk bm e; omega) (fun k e => hB.t k (hk k e)), ⟨?_, ?_⟩, fun w0 h0 hg0 => grow_gr hg0 h0 hk hg⟩
  · rw [ptrs_snoc]
    simpa using hn1
  · intro k e hI
    rcases hat with e2 | e2
    · exact hL.out k (e2 ▸ e) hI
    · have e3 : (w.alloc o).heap.size = k := by rw [e] at e2; simpa using e2.symm
      have := h.tr.lt k hI
      simp at e3
      omega

theorem Tree.sz_le {w : World} {I : Nat → Prop} {T : List PNode} {B : List Nat} (_h : Tree w I T B) (hT : G.WF T) (p : Nat) (hp : p < T.length) : G.sz T p ≤ 101 := by
  have hx := List.getElem?_eq_getElem hp
  rw [G.sz_eq hx]
  exact hT.le _ (List.mem_of_getElem? hx)

/-- Trees are joined. -/
theorem join_ps (w0 w : World) (b : Nat) (s : ByteArray) (c : C) (bm : Nat) (vR : Value) (I : Nat → Prop) (T : List PNode) (B : List Nat) (E : List (ByteArray × Nat)) (k code : Nat) (hk : (k = 113 ∧ code = 1) ∨ (k = 99 ∧ code = 2)) (v : Value) (ps : List Nat)
    (h : PS w b s c bm vR I T B E) (hB : Base w0.heap.size b bm) (h0 : w0.heap.size ≤ w.heap.size) (hL : LocP w w0.heap.size I B v ps) (hne : ps ≠ []) (hps : ∀ p ∈ ps, p < T.length) (hn : ps.length ≤ 100000) :
    Calls Tryz.prog 86 #[.int .i64 (code : Int), v] w fun e w' => ∃ I' B', e = .returned (pv (bl B' T.length)) ∧ PS w' b s c bm vR I' (T ++ [G.mk T k [] false ps]) B' E ∧ Ext w0 I B I' B' ∧ Below w.heap.size w w' := by
  have hk2 : k = 113 ∨ k = 99 := by omega
  by_cases h1 : ps.length = 1
  · obtain ⟨p, rfl⟩ := List.length_eq_one_iff.1 h1
    refine (join_one w B code p v (own_low hL.own (Nat.zero_le _))).mono ?_
    rintro e w' ⟨rfl, rfl⟩
    refine ⟨I, B ++ [bl B p], ?_, h.alone hk2 (hps p (by simp)), ⟨fun _ h => h, fun _ h => .inl h, _, rfl⟩, Below.refl _ _⟩
    rw [← h.tr.len, bl_new]
  · refine (join_many w T B ps code v (own_low hL.own (Nat.zero_le _)) h1 hn (fun p hp => h.tr.places h.wf p (hps p hp)) (fun p hp => h.tr.sz_le h.wf p (hps p hp))).mono ?_
    rintro e w' ⟨a, rfl, ha, hblk, hb⟩
    have hkn : kindN k = code := by rcases hk with ⟨rfl, rfl⟩ | ⟨rfl, rfl⟩ <;> rfl
    obtain ⟨I', hp', he'⟩ := (h.below hb).inner (w0 := w0) hB.b hB.m (Nat.le_trans h0 ha) (.inl ⟨hk2, hne, h1⟩) hps (by rw [hkn]; exact hblk) (own_same_at hL.own (fun j e => hb.block j (hL.own.lt j e).2))
    refine ⟨I', B ++ [a], ?_, hp', he', hb⟩
    rw [← h.tr.len, bl_new]

end Pr
end Go.Proofs.YtnclmcngdcncdaaGreatDoor

namespace Go.Proofs.YtnclmcngdcncdaaGreatDoor
namespace Pr
open Go.RowKit Go.Maps
open Rf (Kept)
open G (PNode)

/-- Where a quote's reading stands. -/
def QSt (s : ByteArray) (E : List (ByteArray × Nat)) (d : Nat) (r : G.Res) (ps : List Nat) (i : Nat) (T : List PNode) : Prop :=
  ((ps = [] ∨ G.pk s i ≠ 39) ∧ G.R s E (.quote ps) d i T r) ∨ (ps ≠ [] ∧ G.pk s i = 39 ∧ r = .ok T.length (i + 1) (T ++ [G.mk T 113 [] false ps]))

theorem QSt.none {s : ByteArray} {E : List (ByteArray × Nat)} {d : Nat} {r : G.Res} {ps : List Nat} {i : Nat} {T : List PNode} (h : G.R s E (.quote ps) d i T r) (hc : G.chr s 39 39 i = none) : r = .err 2 i := by
  cases h with
  | quoteErr _ => rfl
  | quoteEnd h1 _ => rw [hc] at h1; cases h1
  | quoteMore h1 _ _ => rw [hc] at h1; cases h1
theorem QSt.some {s : ByteArray} {E : List (ByteArray × Nat)} {d : Nat} {r : G.Res} {ps : List Nat} {i x j : Nat} {T : List PNode} (h : G.R s E (.quote ps) d i T r) (hc : G.chr s 39 39 i = some (x, j)) : QSt s E d r (ps ++ [T.length]) j (T ++ [G.mk T 115 [(x, x)] false []]) := by
  cases h with
  | quoteErr h1 => rw [hc] at h1; cases h1
  | quoteEnd h1 h2 =>
    rw [hc] at h1
    cases h1
    exact .inr ⟨by simp, h2, by simp⟩
  | quoteMore h1 h2 h3 =>
    rw [hc] at h1
    cases h1
    exact .inl ⟨.inr h2, h3⟩

def QInv (w0 : World) (b : Nat) (s : ByteArray) (c : C) (bm : Nat) (vR : Value) (I : Nat → Prop) (B : List Nat) (E : List (ByteArray × Nat)) (d : Nat) (r : G.Res) (v : Value) (wr : World) : Prop :=
  ∃ ps T1 B1 I1 i1, PS wr b s { c with i := i1 } bm vR I1 T1 B1 E ∧ LocP wr w0.heap.size I1 B1 v ps ∧ Ext w0 I B I1 B1 ∧ Gr b w0 wr ∧ (∀ p ∈ ps, p < T1.length) ∧ ps.length ≤ i1 ∧ QSt s E d r ps i1 T1

/-- A leaf was laid beside a row of trees. -/
theorem leaf_ps {w1 w4 : World} {b : Nat} {s : ByteArray} {c : C} {bm : Nat} {vR : Value} {I : Nat → Prop} {T : List PNode} {B : List Nat} {E : List (ByteArray × Nat)} {rs : List (Nat × Nat)} {o : Bool} {vr : Value} {rs' : List (Nat × Nat)} {a base : Nat} {v : Value} {ps : List Nat}
    (hP : PS w1 b s c bm vR I T B E) (hb : Below w1.heap.size w1 w4) (ha : w1.heap.size ≤ a) (hblk : w4.heap[a]? = some (.cells (leafCells vr o) 108 (0, 0))) (ho : w4.ownsRow w1.heap.size 154 2 vr rs'.length (rc rs')) (hok : SetOk rs' rs) (hbd : ∀ r ∈ rs, r.1 ≤ 1114111 ∧ r.2 ≤ 1114111) (hL : LocP w1 base I B v ps) (hps : ∀ p ∈ ps, p < T.length) :
    ∃ I4, PS w4 b s c bm vR I4 (T ++ [G.mk T 115 rs o []]) (B ++ [a]) E ∧ Ext w1 I B I4 (B ++ [a]) ∧ LocP w4 base I4 (B ++ [a]) v ps ∧ bl (B ++ [a]) T.length = a := by
  obtain ⟨I4, h4, hX⟩ := (hP.below hb).leaf (w0 := w1) hP.base.b hP.base.m ha hblk ho hok hbd
  refine ⟨I4, h4, hX, (hL.below hb).ext hX (fun p hp => by rw [hP.tr.len]; exact hps p hp) (fun k e => (hL.own.lt k e).2), ?_⟩
  rw [← hP.tr.len, bl_new]

theorem lt_snoc' (T : List PNode) (x : PNode) (ps : List Nat) (h : ∀ p ∈ ps, p < T.length) : ∀ p ∈ ps ++ [T.length], p < (T ++ [x]).length := by
  intro p hp
  rcases List.mem_append.1 hp with hp | hp
  · have := h p hp
    simp
    omega
  · simp only [List.mem_singleton] at hp
    subst hp
    simp
theorem below_made (w : World) (o : Obj) : Below w.heap.size w (w.alloc o) := (Below.refl _ w).alloc (Nat.le_refl _) o
theorem below_then {a b c : World} (h : Below a.heap.size a b) (g : Below b.heap.size b c) : Below a.heap.size a c := h.trans (g.mono h.size)

set_option maxRecDepth 100000 in
set_option maxHeartbeats 4000000 in
theorem quote_any (w : World) (b : Nat) (s : ByteArray) (c : C) (bm : Nat) (vR : Value) (I : Nat → Prop) (T : List PNode) (B : List Nat) (E : List (ByteArray × Nat)) (d : Nat) (r : G.Res) (h : PS w b s c bm vR I T B E) (hlt : c.i < s.size) (hr : G.R s E (.quote []) d (c.i + 1) T r) :
    Calls Tryz.prog 115 #[.pointer (some ⟨b, 0, none⟩)] w fun e w' => RPost w b s c bm vR I B E r e w' := by
  obtain ⟨i0, hi, hz0, hz1, hz2⟩ := info_parts infoP
  obtain ⟨c0, c1, c2, c3, c4, c5, c6, fr⟩ := h.rb.reads
  have hs := h.sz
  have hB := h.base
  go_enter Tryz.func115, Tryz.ntmps115
  go_wp2
  go_loopw [3] (fun v wr => QInv w b s c bm vR I B E d r v wr) (fun _ wr => s.size - posOf b wr)
  case atStart => exact ⟨[], T, B, I, c.i + 1, h.step (Gr.set (Kept.refl _ w) _ _) h.rb.inc hlt, LocP.nil _ _ _ _, Ext.refl _ _ _, Gr.set (Kept.refl _ w) _ _, by simp, by simp, .inl ⟨.inl rfl, hr⟩⟩
  case round =>
    obtain ⟨ps, T1, B1, I1, i1, hP, hL, hX, hG, hps, hpl, hst⟩ := hrel
    have HP : Hid (posOf b wr = i1) := hP.rb.pos
    have hi1 : i1 ≤ s.size := hP.ci
    have hszl := hG.size
    obtain ⟨pa, pc, hpe⟩ := Rf.own_len hL.own
    subst hpe
    clear c0 c1 c2 c3 c4 c5 c6 fr
    have hPk := peek_any wr b s _ _ vR hP.rb hs hi1
    have hCh : ∀ n, _ := fun n => char_any (wr.drewN n) b s _ _ vR ⟨#[39]⟩ 39 39 (.inl ⟨rfl, rfl, rfl⟩) (hP.rb.drewN n) hs hi1 (hP.tab.below ((Kept.drewN (Kept.refl (fun _ => True) wr) n).all))
    have hDr : ∀ n, Gr b wr (wr.drewN n) := fun n => Kept.drewN (Kept.refl _ wr) n
    change Calls _ _ _ _ (fun r w' => r = .returned (.int .u8 (pkV s i1)) ∧ _) at hPk
    rcases hst with ⟨hmore, hR⟩ | ⟨hne, h39, rfl⟩
    · cases hc : G.chr s 39 39 i1 with
      | none =>
        obtain rfl := QSt.none hR hc
        simp only [hc] at hCh
        clear hR hc
        by_cases hps0 : ps.length = 0
        · have hCh0 := hCh 0
          change Calls _ _ _ wr _ at hCh0
          rw [hps0]
          go_wp2_with (go_at_call 119; refine hCh0.mono ?_; rintro e w1 ⟨hg1, rfl, hR1⟩)
          go_ret
          exact ⟨hG.trans hg1, rfl, _, _, hR1⟩
        · have hne : ¬ pkV s i1 = 39 := pkV_ne (by omega) (by rcases hmore with h | h; exact absurd (by rw [h]; rfl) hps0; exact h)
          generalize pkV s i1 = p at hPk hne
          have hnb : (p != 39) = true := by simpa using hne
          have hlb : ((ps.length : Int) == 0) = false := by simpa using hps0
          go_wp2_with (first
            | (go_at_call 119; refine (hCh n).mono ?_; rintro e w2 ⟨hg2, rfl, hR2⟩)
            | (go_at_call 56; refine hPk.mono ?_; rintro e w1 ⟨rfl, n, rfl⟩))
          go_ret
          exact ⟨(hG.trans (hDr n)).trans hg2, rfl, _, _, hR2⟩
      | some q =>
        obtain ⟨x, j⟩ := q
        have hst := QSt.some hR hc
        have hbd := G.chr_bd hc
        simp only [hc] at hCh
        clear hR hc
        have HS : Hid _ := hst
        clear hst
        have hmain : ∀ (w1 : World), Gr b wr w1 → RB w1 b s { c with i := j } (.map (some bm)) vR → PS w1 b s { c with i := j } bm vR I1 T1 B1 E := fun w1 hg hR => hP.step hg hR hbd.2.1
        by_cases hps0 : ps.length = 0
        · have hCh0 := hCh 0
          change Calls _ _ _ wr _ at hCh0
          have hpn : ps = [] := by simpa using hps0
          subst hpn
          go_wp2_with (first
            | (at_builtin
               refine wpList_append_own_at _ rfl (.tmp 28) (.tmp 34) 72 rfl w.heap.size 102 i0 (.pointer none) 1 8 Tryz.underlying72 hi hz0 hz1 hz2 rfl (by decide) (.slice pa ([] : List Nat).length pc) ([] : List Nat).length (ptrs (B1 ++ [a]) []) rfl (HL4.out.2.1.own.alloc _) ⟨w4.heap.size, 0, none⟩ 1 1 [pv a] rfl rfl (cell_one_new _ _ _) (fun y hy => by simp at hy; subst hy; rfl) (by unfold maxLen; omega) (by omega) (by have := hbw4; simp; omega) ?_
               intro v1 w6 hn1 hg1 _ hat1
               have HPU : Hid _ := LocP.push (n := T1.length) HL4.out.1 hB HL4.out.2.1 (by rw [HL4.out.2.2.2]; exact hn1) hg1 hat1
               clear hn1 hg1 hat1)
            | (go_at_call 112
               refine hN4.mono ?_
               rintro e w4 ⟨a, rfl, ha4, hblk4, hb4⟩
               have hb14 := below_then (below_then (below_then hb2 (below_made w2 _)) hb3) hb4
               have hbw4 : w.heap.size ≤ w4.heap.size := Nat.le_trans (Nat.le_trans hszl HG1.out.1.size) hb14.size
               obtain ⟨I4, hP4, hX4, hL4, hbl4⟩ := leaf_ps HG1.out.2 hb14 (Nat.le_trans (below_then (below_then hb2 (below_made w2 _)) hb3).size ha4) hblk4 (own_low (own_same_at ho3 (fun k e => hb4.block k (ho3.lt k e).2)) (below_then hb2 (below_made w2 _)).size) hok3 (by simp; omega) (hL.gr HG1.out.1 hB.b) hps
               have HL4 : Hid _ := And.intro hP4 (And.intro hL4 (And.intro hX4 hbl4))
               have HBW : Hid _ := hb14
               clear hP4 hX4 hL4 hbl4 hblk4 ha4 hb4 hb14 ho3 hok3 hb3 hb2 hN4 hN3)
            | (go_at_call 120; refine hN3.mono ?_; rintro e w3 ⟨vs, rfl, ⟨vr, rs', rfl, ho3, hok3⟩, hb3⟩; have hN4 := leaf_any w3 vr false (by obtain ⟨z1, z2, z3⟩ := Rf.own_len ho3; exact ⟨z1, _, z2, z3⟩))
            | (go_at_call 121; refine (one_any w1 (x : Int)).mono ?_; rintro e w2 ⟨rfl, hb2⟩; have hN3 := of_any (w2.alloc (.cells #[.int .i32 (x : Int), .int .i32 (x : Int)] 154)) [(x, x)] (.slice (some ⟨w2.heap.size, 0, none⟩) 1 1) (own_made w2 0 154 2 1 #[.int .i32 (x : Int), .int .i32 (x : Int)] (Nat.zero_le _) rfl (by unfold maxLen; omega)) (by simp) (by simp) (by simp; omega))
            | (go_at_call 119; refine hCh0.mono ?_; rintro e w1 ⟨hg1, rfl, hR1⟩; have HG1 : Hid (Gr b wr w1 ∧ PS w1 b s { c with i := j } bm vR I1 T1 B1 E) := ⟨hg1, hmain w1 hg1 hR1⟩; clear hg1 hR1))
          have hQ : QInv w b s c bm vR I B E d r v1 w6 := by
            refine ⟨([] : List Nat) ++ [T1.length], T1 ++ [G.mk T1 115 [(x, x)] false []], B1 ++ [a], I4, j, HPU.out.1, HPU.out.2.1, hX.trans (hG.trans HG1.out.1).size HL4.out.2.2.1, HPU.out.2.2 w (Nat.le_refl _) ((hG.trans HG1.out.1).trans (Gr.below HBW.out)), lt_snoc' _ _ _ hps, ?_, HS.out⟩
            simp
            omega
          refine ⟨hQ, ?_⟩
          rw [HP.out, HPU.out.1.rb.pos]
          show s.size - j < _
          omega
        · have hne : ¬ pkV s i1 = 39 := pkV_ne (by omega) (by rcases hmore with h | h; exact absurd (by rw [h]; rfl) hps0; exact h)
          generalize pkV s i1 = p at hPk hne
          have hnb : (p != 39) = true := by simpa using hne
          have hlb : ((ps.length : Int) == 0) = false := by simpa using hps0
          go_wp2_with (first
            | (at_builtin
               refine wpList_append_own_at _ rfl (.tmp 28) (.tmp 34) 72 rfl w.heap.size 102 i0 (.pointer none) 1 8 Tryz.underlying72 hi hz0 hz1 hz2 rfl (by decide) (.slice pa ps.length pc) ps.length (ptrs (B1 ++ [a]) ps) rfl (HL4.out.2.1.own.alloc _) ⟨w4.heap.size, 0, none⟩ 1 1 [pv a] rfl rfl (cell_one_new _ _ _) (fun y hy => by simp at hy; subst hy; rfl) (by unfold maxLen; omega) (by omega) (by have := hbw4; simp; omega) ?_
               intro v1 w6 hn1 hg1 _ hat1
               have HPU : Hid _ := LocP.push (n := T1.length) HL4.out.1 hB HL4.out.2.1 (by rw [HL4.out.2.2.2]; exact hn1) hg1 hat1
               clear hn1 hg1 hat1)
            | (go_at_call 112
               refine hN4.mono ?_
               rintro e w4 ⟨a, rfl, ha4, hblk4, hb4⟩
               have hb14 := below_then (below_then (below_then hb2 (below_made w2 _)) hb3) hb4
               have hbw4 : w.heap.size ≤ w4.heap.size := Nat.le_trans (Nat.le_trans hszl HG1.out.1.size) hb14.size
               obtain ⟨I4, hP4, hX4, hL4, hbl4⟩ := leaf_ps HG1.out.2 hb14 (Nat.le_trans (below_then (below_then hb2 (below_made w2 _)) hb3).size ha4) hblk4 (own_low (own_same_at ho3 (fun k e => hb4.block k (ho3.lt k e).2)) (below_then hb2 (below_made w2 _)).size) hok3 (by simp; omega) (hL.gr HG1.out.1 hB.b) hps
               have HL4 : Hid _ := And.intro hP4 (And.intro hL4 (And.intro hX4 hbl4))
               have HBW : Hid _ := hb14
               clear hP4 hX4 hL4 hbl4 hblk4 ha4 hb4 hb14 ho3 hok3 hb3 hb2 hN4 hN3)
            | (go_at_call 120; refine hN3.mono ?_; rintro e w3 ⟨vs, rfl, ⟨vr, rs', rfl, ho3, hok3⟩, hb3⟩; have hN4 := leaf_any w3 vr false (by obtain ⟨z1, z2, z3⟩ := Rf.own_len ho3; exact ⟨z1, _, z2, z3⟩))
            | (go_at_call 121; refine (one_any w1 (x : Int)).mono ?_; rintro e w2 ⟨rfl, hb2⟩; have hN3 := of_any (w2.alloc (.cells #[.int .i32 (x : Int), .int .i32 (x : Int)] 154)) [(x, x)] (.slice (some ⟨w2.heap.size, 0, none⟩) 1 1) (own_made w2 0 154 2 1 #[.int .i32 (x : Int), .int .i32 (x : Int)] (Nat.zero_le _) rfl (by unfold maxLen; omega)) (by simp) (by simp) (by simp; omega))
            | (go_at_call 119; refine (hCh n).mono ?_; rintro e w1 ⟨hg1, rfl, hR1⟩; have HG1 : Hid (Gr b wr w1 ∧ PS w1 b s { c with i := j } bm vR I1 T1 B1 E) := ⟨(hDr n).trans hg1, hmain w1 ((hDr n).trans hg1) hR1⟩; clear hg1 hR1)
            | (go_at_call 56; refine hPk.mono ?_; rintro e wn ⟨rfl, n, rfl⟩))
          have hQ : QInv w b s c bm vR I B E d r v1 w6 := by
            refine ⟨ps ++ [T1.length], T1 ++ [G.mk T1 115 [(x, x)] false []], B1 ++ [a], I4, j, HPU.out.1, HPU.out.2.1, hX.trans (hG.trans HG1.out.1).size HL4.out.2.2.1, HPU.out.2.2 w (Nat.le_refl _) ((hG.trans HG1.out.1).trans (Gr.below HBW.out)), lt_snoc' _ _ _ hps, ?_, HS.out⟩
            simp
            omega
          refine ⟨hQ, ?_⟩
          rw [HP.out, HPU.out.1.rb.pos]
          show s.size - j < _
          omega
    · have hlen : ¬ ps.length = 0 := by simpa using hne
      rw [(pkV_eq (by omega)).2 h39] at hPk
      have hlt1 := G.lt_of_pk (s := s) (i := i1) (by omega)
      clear hCh
      go_wp2_with (first
        | (go_at_call 86; refine hJ.mono ?_; rintro e w3 ⟨I', B', rfl, hP3, hX3, hb3⟩)
        | (go_at_call 82; refine (step_any (wr.drewN n) b s _ _ vR 1 (hP.rb.drewN n) hs hlt1).mono ?_; rintro e w2 ⟨rfl, hR2, hE2⟩; have hG2 : Gr b wr w2 := (Kept.drewN (Kept.refl _ wr) n).trans hE2.kept; have hP2 := hP.step hG2 hR2 (G.skip_le s _ hlt1); have hL2 := hL.gr hG2 hB.b; have hJ := join_ps w w2 b s _ bm vR I1 T1 B1 E 113 1 (.inl ⟨rfl, rfl⟩) _ ps hP2 hB (Nat.le_trans hszl hG2.size) hL2 hne hps (by omega))
        | (go_at_call 56; refine hPk.mono ?_; rintro e w1 ⟨rfl, n, rfl⟩))
      go_ret
      exact ⟨(hG.trans hG2).trans (Gr.below hb3), I', B', rfl, hP3, hX.trans (Nat.le_refl _) hX3⟩

end Pr
end Go.Proofs.YtnclmcngdcncdaaGreatDoor

namespace Go.Proofs.YtnclmcngdcncdaaGreatDoor
namespace Pr
open Go.RowKit Go.Maps
open Rf (Kept)
open G (PNode)

/-- What a part is: a range and where it ends, or an error and its place. -/
inductive PRes where
  | ok (a z j : Nat)
  | err (e p : Nat)
def partR (s : ByteArray) (i : Nat) : PRes := match G.chr s 93 45 i with
  | none => .err 2 i
  | some (a, j) => if G.pk s j = 45 then (match G.chr s 93 45 (j + 1) with
      | none => .err 2 (j + 1)
      | some (z, k) => if z < a then .err 4 i else .ok a z k) else .ok a a j

def PartPost (w : World) (b : Nat) (s : ByteArray) (c : C) (m vR : Value) (r : PRes) (e : Ending) (w' : World) : Prop :=
  Gr b w w' ∧ match r with
    | .ok a z j => e = .returned (.tuple #[.agg #[.int .i32 (a : Int), .int .i32 (z : Int)], .bool true]) ∧ RB w' b s { c with i := j } m vR
    | .err er p => ∃ x y : Int, ∃ i' d' : Nat, e = .returned (.tuple #[.agg #[.int .i32 x, .int .i32 y], .bool false]) ∧ RB w' b s ⟨i', d', p, er⟩ m vR

/-- The result's block, written. -/
theorem res_two {W : World} {B : Nat} {t : TypeId} {x y : Value} (h : W.heap[B]? = some (.cells #[.int .i32 0, .int .i32 0] t (0, 0))) :
    (W.setCell ⟨B, 0, none⟩ x).cell? ⟨B, 0, none⟩ = some x ∧ ((W.setCell ⟨B, 0, none⟩ x).setCell ⟨B, 1, none⟩ y).cell? ⟨B, 1, none⟩ = some y :=
  ⟨Rf.cell_blk (Rf.blk_set h _ _) 0 _ rfl, Rf.cell_blk (Rf.blk_set (Rf.blk_set h _ _) _ _) 1 _ rfl⟩

theorem fin_two {w W : World} {b : Nat} {s : ByteArray} {c : C} {m vR x y : Value} (hG : Gr b w W) (hR : RB W b s c m vR) (hb : b < w.heap.size) :
    Gr b w ((W.setCell ⟨w.heap.size, 0, none⟩ x).setCell ⟨w.heap.size, 1, none⟩ y) ∧ RB ((W.setCell ⟨w.heap.size, 0, none⟩ x).setCell ⟨w.heap.size, 1, none⟩ y) b s c m vR := by
  refine ⟨Kept.setNew (Kept.setNew hG (q := ⟨w.heap.size, 0, none⟩) (Nat.le_refl _) _) (q := ⟨w.heap.size, 1, none⟩) (Nat.le_refl _) _, ?_⟩
  show _ = _
  rw [Rf.blk_ne _ (by omega), Rf.blk_ne _ (by omega)]
  exact hR
theorem blk_res {w W : World} {b : Nat} {o : Obj} (hg : Gr b (w.alloc o) W) (hb : b < w.heap.size) : W.heap[w.heap.size]? = some o :=
  (hg.block w.heap.size (by simp) (by omega)).trans (heap_alloc_new w o)

theorem cells_res {W : World} {B : Nat} {t : TypeId} (h : W.heap[B]? = some (.cells #[.int .i32 0, .int .i32 0] t (0, 0))) : (∀ i, W.frozen? ⟨B, i, none⟩ = false) ∧ W.cell? ⟨B, 0, none⟩ = some (.int .i32 0) ∧ W.cell? ⟨B, 1, none⟩ = some (.int .i32 0) :=
  ⟨Rf.free_blk h, Rf.cell_blk h 0 _ rfl, Rf.cell_blk h 1 _ rfl⟩

set_option maxRecDepth 100000 in
set_option maxHeartbeats 2000000 in
theorem part_any (w : World) (b : Nat) (s : ByteArray) (c : C) (m vR : Value) (hR : RB w b s c m vR) (hs : s.size ≤ 2000) (hi : c.i ≤ s.size) (hT : Tabs w) (hO : Own b) :
    Calls Tryz.prog 122 #[.pointer (some ⟨b, 0, none⟩)] w fun e w' => PartPost w b s c m vR (partR s c.i) e w' := by
  have hb0 := hR.lt
  have hR0 := hR.below (below_made w (.cells #[.int .i32 0, .int .i32 0] 154))
  have hT0 := hT.below (below_made w (.cells #[.int .i32 0, .int .i32 0] 154))
  have hbk := heap_alloc_new w (.cells #[.int .i32 0, .int .i32 0] 154)
  have hG0 : Gr b w (w.alloc (.cells #[.int .i32 0, .int .i32 0] 154)) := Gr.below (below_made w _)
  obtain ⟨c0, c1, c2, c3, c4, c5, c6, fr⟩ := hR0.reads
  have hC := char_any _ b s c m vR ⟨#[93, 45]⟩ 93 45 (.inr ⟨rfl, rfl, rfl⟩) hR0 hs hi hT0
  have HG0 : Hid _ := And.intro hG0 hbk
  clear hG0 hbk hR0 hT0
  unfold partR
  cases hc : G.chr s 93 45 c.i with
  | none =>
    rw [hc] at hC
    simp only
    clear hc
    go_enter Tryz.func122, Tryz.ntmps122
    go_wp2_with (first
      | (go_at_call 121; refine (one_any w1 0).mono ?_; rintro e w2 ⟨rfl, hb2⟩; have HGW : Hid _ := Kept.trans hg1 (Gr.below hb2); obtain ⟨f0, g0, g1⟩ := cells_res (W := w2) (blk_res HGW.out hb0))
      | (go_at_call 119; refine hC.mono ?_; rintro e w1 ⟨hg1, rfl, hR1⟩))
    obtain ⟨s0, s1⟩ := res_two (x := .int .i32 0) (y := .int .i32 0) (blk_res HGW.out hb0)
    refine bodyPost_ret (by simp [results, Tryz.results122, go_sem, s0, s1]; try rfl) rfl ?_
    obtain ⟨q1, q2⟩ := fin_two (x := .int .i32 0) (y := .int .i32 0) (HG0.out.1.trans HGW.out) (hR1.below hb2) hb0
    exact ⟨q1, 0, 0, _, _, rfl, q2⟩
  | some q =>
    obtain ⟨a, j⟩ := q
    have hbd := G.chr_bd hc
    rw [hc] at hC
    simp only
    clear hc
    have hab : a ≤ 1114111 := hbd.2.2
    by_cases h45 : G.pk s j = 45
    · rw [if_pos h45]
      have hlt := G.lt_of_pk (s := s) (i := j) (by omega)
      have hpv : pkV s j = 45 := (pkV_eq (by omega)).2 h45
      have hPk : ∀ w1, RB w1 b s { c with i := j } m vR → _ := fun w1 hR1 => peek_any w1 b s _ m vR hR1 hs hbd.2.1
      have hC2 : ∀ w2, RB w2 b s { c with i := j + 1 } m vR → Tabs w2 → _ := fun w2 hR2 hT2 => char_any w2 b s _ m vR ⟨#[93, 45]⟩ 93 45 (.inr ⟨rfl, rfl, rfl⟩) hR2 hs hlt hT2
      simp only [hpv] at hPk
      have HT0 : Hid (Tabs (w.alloc (.cells #[.int .i32 0, .int .i32 0] 154))) := hT.below (below_made w _)
      clear h45 hpv
      cases hc2 : G.chr s 93 45 (j + 1) with
      | none =>
        simp only [hc2] at hC2 ⊢
        clear hc2
        go_enter Tryz.func122, Tryz.ntmps122
        go_wp2_with (first
          | (go_at_call 119; refine hC3.mono ?_; rintro e w3 ⟨hg3, rfl, hR3⟩; have HGW : Hid _ := Kept.trans (Gr.set (hg1.trans (Kept.drewN (Kept.refl _ w1) n)) 1 (.int .i64 ((j : Int) + 1))) hg3; obtain ⟨f0, g0, g1⟩ := cells_res (W := w3) (blk_res HGW.out hb0))
          | (go_at_call 56; refine (hPk w1 hR1).mono ?_; rintro e w2 ⟨rfl, n, rfl⟩; have hC3 := hC2 ((w1.drewN n).setCell ⟨b, 1, none⟩ (.int .i64 ((j : Int) + 1))) (hR1.drewN n).inc (HT0.out.gr (Gr.set (hg1.trans (Kept.drewN (Kept.refl _ w1) n)) 1 (.int .i64 ((j : Int) + 1))) hO))
          | (go_at_call 119; refine hC.mono ?_; rintro e w1 ⟨hg1, rfl, hR1⟩; clear c0 c1 c2 c3 c4 c5 c6 fr; obtain ⟨c0, c1, c2, c3, c4, c5, c6, fr⟩ := hR1.reads))
        obtain ⟨s0, s1⟩ := res_two (x := .int .i32 (a : Int)) (y := .int .i32 0) (blk_res HGW.out hb0)
        refine bodyPost_ret (by simp [results, Tryz.results122, go_sem, s0, s1]; try rfl) rfl ?_
        obtain ⟨q1, q2⟩ := fin_two (x := .int .i32 (a : Int)) (y := .int .i32 0) (HG0.out.1.trans HGW.out) hR3 hb0
        exact ⟨q1, (a : Int), 0, _, _, rfl, q2⟩
      | some q2 =>
        obtain ⟨z, k⟩ := q2
        have hbd2 := G.chr_bd hc2
        simp only [hc2] at hC2 ⊢
        clear hc2
        have hzb : z ≤ 1114111 := hbd2.2.2
        by_cases hza : z < a
        · rw [if_pos hza]
          have hza' : (z : Int) < (a : Int) := by omega
          go_enter Tryz.func122, Tryz.ntmps122
          go_wp2_with (first
            | (go_at_call 84; refine (fail_any w3 b s _ m vR c.i 4 hR3).mono ?_; rintro e w4 ⟨rfl, hR4, hE4⟩; have HGW : Hid _ := Kept.trans (Kept.trans (Gr.set (hg1.trans (Kept.drewN (Kept.refl _ w1) n)) 1 (.int .i64 ((j : Int) + 1))) hg3) hE4.kept; obtain ⟨f0, g0, g1⟩ := cells_res (W := w4) (blk_res HGW.out hb0))
            | (go_at_call 119; refine hC3.mono ?_; rintro e w3 ⟨hg3, rfl, hR3⟩)
            | (go_at_call 56; refine (hPk w1 hR1).mono ?_; rintro e w2 ⟨rfl, n, rfl⟩; have hC3 := hC2 ((w1.drewN n).setCell ⟨b, 1, none⟩ (.int .i64 ((j : Int) + 1))) (hR1.drewN n).inc (HT0.out.gr (Gr.set (hg1.trans (Kept.drewN (Kept.refl _ w1) n)) 1 (.int .i64 ((j : Int) + 1))) hO))
            | (go_at_call 119; refine hC.mono ?_; rintro e w1 ⟨hg1, rfl, hR1⟩; clear c0 c1 c2 c3 c4 c5 c6 fr; obtain ⟨c0, c1, c2, c3, c4, c5, c6, fr⟩ := hR1.reads))
          obtain ⟨s0, s1⟩ := res_two (x := .int .i32 (a : Int)) (y := .int .i32 (z : Int)) (blk_res HGW.out hb0)
          refine bodyPost_ret (by simp [results, Tryz.results122, go_sem, s0, s1]; try rfl) rfl ?_
          obtain ⟨q1, q2⟩ := fin_two (x := .int .i32 (a : Int)) (y := .int .i32 (z : Int)) (HG0.out.1.trans HGW.out) hR4 hb0
          exact ⟨q1, (a : Int), (z : Int), _, _, rfl, q2⟩
        · rw [if_neg hza]
          have hza' : ¬ (z : Int) < (a : Int) := by omega
          go_enter Tryz.func122, Tryz.ntmps122
          go_wp2_with (first
            | (go_at_call 119; refine hC3.mono ?_; rintro e w3 ⟨hg3, rfl, hR3⟩; have HGW : Hid _ := Kept.trans (Gr.set (hg1.trans (Kept.drewN (Kept.refl _ w1) n)) 1 (.int .i64 ((j : Int) + 1))) hg3; obtain ⟨f0, g0, g1⟩ := cells_res (W := w3) (blk_res HGW.out hb0))
            | (go_at_call 56; refine (hPk w1 hR1).mono ?_; rintro e w2 ⟨rfl, n, rfl⟩; have hC3 := hC2 ((w1.drewN n).setCell ⟨b, 1, none⟩ (.int .i64 ((j : Int) + 1))) (hR1.drewN n).inc (HT0.out.gr (Gr.set (hg1.trans (Kept.drewN (Kept.refl _ w1) n)) 1 (.int .i64 ((j : Int) + 1))) hO))
            | (go_at_call 119; refine hC.mono ?_; rintro e w1 ⟨hg1, rfl, hR1⟩; clear c0 c1 c2 c3 c4 c5 c6 fr; obtain ⟨c0, c1, c2, c3, c4, c5, c6, fr⟩ := hR1.reads))
          obtain ⟨s0, s1⟩ := res_two (x := .int .i32 (a : Int)) (y := .int .i32 (z : Int)) (blk_res HGW.out hb0)
          refine bodyPost_ret (by simp [results, Tryz.results122, go_sem, s0, s1]; try rfl) rfl ?_
          obtain ⟨q1, q2⟩ := fin_two (x := .int .i32 (a : Int)) (y := .int .i32 (z : Int)) (HG0.out.1.trans HGW.out) hR3 hb0
          exact ⟨q1, rfl, q2⟩
    · rw [if_neg h45]
      have hne : ¬ pkV s j = 45 := pkV_ne (by omega) h45
      have hPk : ∀ w1, RB w1 b s { c with i := j } m vR → _ := fun w1 hR1 => peek_any w1 b s _ m vR hR1 hs hbd.2.1
      simp only at hPk
      generalize pkV s j = p at hPk hne
      have hnb : (p != 45) = true := by simpa using hne
      go_enter Tryz.func122, Tryz.ntmps122
      go_wp2_with (first
        | (go_at_call 121; refine (one_any (w1.drewN n) (a : Int)).mono ?_; rintro e w2 ⟨rfl, hb2⟩; have HGW : Hid _ := Kept.trans (hg1.trans (Kept.drewN (Kept.refl _ w1) n)) (Gr.below hb2); obtain ⟨f0, g0, g1⟩ := cells_res (W := w2) (blk_res HGW.out hb0))
        | (go_at_call 56; refine (hPk w1 hR1).mono ?_; rintro e w2 ⟨rfl, n, rfl⟩)
        | (go_at_call 119; refine hC.mono ?_; rintro e w1 ⟨hg1, rfl, hR1⟩))
      obtain ⟨s0, s1⟩ := res_two (x := .int .i32 (a : Int)) (y := .int .i32 (a : Int)) (blk_res HGW.out hb0)
      refine bodyPost_ret (by simp [results, Tryz.results122, go_sem, s0, s1]; try rfl) rfl ?_
      obtain ⟨q1, q2⟩ := fin_two (x := .int .i32 (a : Int)) (y := .int .i32 (a : Int)) (HG0.out.1.trans HGW.out) ((hR1.drewN n).below hb2) hb0
      exact ⟨q1, rfl, q2⟩

end Pr
end Go.Proofs.YtnclmcngdcncdaaGreatDoor

namespace Go.Proofs.YtnclmcngdcncdaaGreatDoor
namespace Pr
open Go.RowKit Go.Maps
open Rf (Kept)
open G (PNode)

/-- One part more of a set. -/
theorem set_step {s : ByteArray} {E : List (ByteArray × Nat)} {d : Nat} {r : G.Res} {o : Bool} {rs : List (Nat × Nat)} {i : Nat} {T : List PNode} (h : G.R s E (.set o rs) d i T r) (h93 : G.pk s i ≠ 93) :
    match partR s i with
    | .err e p => r = .err e p
    | .ok a z j => a ≤ z ∧ z ≤ 1114111 ∧ i < j ∧ j ≤ s.size ∧ G.R s E (.set o (rs ++ [(a, z)])) d j T r := by
  cases h with
  | setEnd h1 => exact absurd h1 h93
  | setErr h1 h2 => rw [partR, h2]
  | setOne h1 h2 h3 h4 =>
    have := G.chr_bd h2
    rw [partR, h2]
    simp only [if_neg h3]
    exact ⟨Nat.le_refl _, this.2.2, this.1, this.2.1, h4⟩
  | setErr2 h1 h2 h3 h4 =>
    rw [partR, h2]
    simp only [if_pos h3, h4]
  | setErr3 h1 h2 h3 h4 h5 =>
    rw [partR, h2]
    simp only [if_pos h3, h4, if_pos h5]
  | setTwo h1 h2 h3 h4 h5 h6 =>
    have b1 := G.chr_bd h2
    have b2 := G.chr_bd h4
    rw [partR, h2]
    simp only [if_pos h3, h4, if_neg (Nat.not_lt.2 h5)]
    exact ⟨h5, b2.2.2, by omega, b2.2.1, h6⟩
theorem set_end {s : ByteArray} {E : List (ByteArray × Nat)} {d : Nat} {r : G.Res} {o : Bool} {rs : List (Nat × Nat)} {i : Nat} {T : List PNode} (h : G.R s E (.set o rs) d i T r) (h93 : G.pk s i = 93) : r = .ok T.length (i + 1) (T ++ [G.mk T 115 rs o []]) := by
  cases h with
  | setEnd h1 => rfl
  | setErr h1 _ => exact absurd h93 h1
  | setOne h1 _ _ _ => exact absurd h93 h1
  | setErr2 h1 _ _ _ => exact absurd h93 h1
  | setErr3 h1 _ _ _ _ => exact absurd h93 h1
  | setTwo h1 _ _ _ _ _ => exact absurd h93 h1

def SInv (w0 : World) (b : Nat) (s : ByteArray) (c : C) (bm : Nat) (vR : Value) (I : Nat → Prop) (T : List PNode) (B : List Nat) (E : List (ByteArray × Nat)) (d : Nat) (r : G.Res) (o : Bool) (v : Value) (wr : World) : Prop :=
  ∃ rs i1, PS wr b s { c with i := i1 } bm vR I T B E ∧ wr.ownsRow w0.heap.size 154 2 v rs.length (rc rs) ∧ Gr b w0 wr ∧ (∀ r ∈ rs, r.1 ≤ r.2 ∧ r.2 ≤ 1114111) ∧ rs.length ≤ i1 ∧ G.R s E (.set o rs) d i1 T r

theorem infoRr : (Tryz.prog.info? 154).map (fun i => (i.zero, i.size, i.bytes)) = some (some (.agg #[.int .i32 0, .int .i32 0]), 2, 8) := by kernel_rfl

theorem two_row (wr : World) (o : Obj) (a z : Nat) : ∀ j u, ([.int .i32 (a : Int), .int .i32 (z : Int)] : List Value)[j]? = some u → ((wr.alloc o).alloc (.cells #[.int .i32 (a : Int), .int .i32 (z : Int)] 154)).cell? ((⟨wr.heap.size + 1, 0, none⟩ : Addr).add j) = some u := by
  have h := World.news_of_block (cs := #[.int .i32 (a : Int), .int .i32 (z : Int)]) (t := 154) (fr := (0, 0)) (heap_alloc_new (wr.alloc o) (.cells #[.int .i32 (a : Int), .int .i32 (z : Int)] 154))
  rw [show (wr.alloc o).heap.size = wr.heap.size + 1 by simp] at h
  exact h

theorem row_push {w0 W w6 : World} {b : Nat} {s : ByteArray} {c : C} {bm : Nat} {vR : Value} {I : Nat → Prop} {T : List PNode} {B : List Nat} {E : List (ByteArray × Nat)} {o : Obj} {v : Value} {n : Nat} {xs : List Value}
    (hP : PS W b s c bm vR I T B E) (hB : Base w0.heap.size b bm) (hI : ∀ k, I k → k < w0.heap.size) (hr : W.ownsRow w0.heap.size 154 2 v n xs) (hg : (W.alloc o).grownBy w6 v.ownBlock) (hG : Gr b w0 W) : PS w6 b s c bm vR I T B E ∧ Gr b w0 w6 := by
  have hk : ∀ k, v.ownBlock = some k → w0.heap.size ≤ k := fun k e => (hr.lt k e).1
  have hb := hB.b
  have hm := hB.m
  exact ⟨grow_ps hP hg (fun k e h2 => by have := hk k e; have := hI k h2; omega) (fun e => by have := hk b e; omega) (fun e => by have := hk bm e; omega) (fun k e => hB.t k (hk k e)), grow_gr hG (Nat.le_refl _) hk hg⟩

set_option maxRecDepth 100000 in
set_option maxHeartbeats 4000000 in
theorem set_not (w : World) (b : Nat) (s : ByteArray) (c : C) (bm : Nat) (vR : Value) (I : Nat → Prop) (T : List PNode) (B : List Nat) (E : List (ByteArray × Nat)) (d : Nat) (r : G.Res) (h : PS w b s c bm vR I T B E) (hlt : c.i < s.size) (h94 : G.pk s (c.i + 1) = 94) (hr : G.R s E (.set true []) d (c.i + 2) T r) :
    Calls Tryz.prog 116 #[.pointer (some ⟨b, 0, none⟩)] w fun e w' => RPost w b s c bm vR I B E r e w' := by
  obtain ⟨i0, hi, hz0, hz1, hz2⟩ := info_parts infoRr
  obtain ⟨c0, c1, c2, c3, c4, c5, c6, fr⟩ := h.rb.reads
  have hs := h.sz
  have hB := h.base
  have hIw := h.tr.lt
  have hlt2 := G.lt_of_pk (s := s) (i := c.i + 1) (by omega)
  have hPk0 := peek_any _ b s _ _ vR h.rb.inc hs hlt
  rw [show pkV s ({ c with i := c.i + 1 } : C).i = 94 from (pkV_eq (by omega)).2 h94] at hPk0
  go_enter Tryz.func116, Tryz.ntmps116
  go_wp2_with (first
    | (go_at_call 56; refine hPk0.mono ?_; rintro e wa ⟨rfl, na, rfl⟩; have HST : Hid _ := (h.rb.inc.drewN na).inc; clear c0 c1 c2 c3 c4 c5 c6 fr; obtain ⟨c0, c1, c2, c3, c4, c5, c6, fr⟩ := (h.rb.inc.drewN na).reads))
  go_loopw [4] (fun v wr => SInv w b s c bm vR I T B E d r true v wr) (fun _ wr => s.size - posOf b wr)
  case atStart => exact ⟨[], c.i + 2, h.step (Gr.set (Kept.drewN (Gr.set (Kept.refl _ w) _ _) _) _ _) HST.out hlt2, World.ownsRow_nil _ _ _ _, Gr.set (Kept.drewN (Gr.set (Kept.refl _ w) _ _) _) _ _, by simp, by simp, hr⟩
  case round =>
    obtain ⟨rs, i1, hP, hL, hG, hrs, hpl, hR⟩ := hrel
    have HP : Hid (posOf b wr = i1) := hP.rb.pos
    have hi1 : i1 ≤ s.size := hP.ci
    have hszl := hG.size
    obtain ⟨pa, pc, hpe⟩ := Rf.own_len hL
    subst hpe
    have hPk := peek_any wr b s _ _ vR hP.rb hs hi1
    change Calls _ _ _ _ (fun r w' => r = .returned (.int .u8 (pkV s i1)) ∧ _) at hPk
    have hDr : ∀ n, Gr b wr (wr.drewN n) := fun n => Kept.drewN (Kept.refl _ wr) n
    by_cases h93 : G.pk s i1 = 93
    · obtain rfl := set_end hR h93
      rw [(pkV_eq (by omega)).2 h93] at hPk
      have hlt1 := G.lt_of_pk (s := s) (i := i1) (by omega)
      clear hR
      go_wp2_with (first
        | (go_at_call 112
           refine hN4.mono ?_
           rintro e w4 ⟨a, rfl, ha4, hblk4, hb4⟩
           have hb24 := below_then hb3 hb4
           obtain ⟨I4, hP4, hX4, _, hbl4⟩ := leaf_ps hP2 hb24 (Nat.le_trans hb3.size ha4) hblk4 (own_same_at ho3 (fun k e => hb4.block k (ho3.lt k e).2)) hok3 (fun r hr => ⟨by have := hrs r hr; omega, (hrs r hr).2⟩) (LocP.nil _ w2.heap.size I B) (by simp)
           have HL4 : Hid _ := And.intro hP4 (And.intro hX4 (And.intro hbl4 ((hG.trans hG2).trans (Gr.below hb24))))
           clear hP4 hX4 hbl4 hblk4 ha4 hb4 hb24 ho3 hok3 hb3 hN4 hN3)
        | (go_at_call 113; refine hN3.mono ?_; rintro e w3 ⟨vs, rfl, ⟨vr, rs', rfl, ho3, hok3⟩, hb3⟩; have hN4 := leaf_any w3 vr true (by obtain ⟨z1, z2, z3⟩ := Rf.own_len ho3; exact ⟨z1, _, z2, z3⟩))
        | (go_at_call 82; refine (step_any (wr.drewN n) b s _ _ vR 1 (hP.rb.drewN n) hs hlt1).mono ?_; rintro e w2 ⟨rfl, hR2, hE2⟩; have hG2 : Gr b wr w2 := (hDr n).trans hE2.kept; have hP2 := hP.step hG2 hR2 (G.skip_le s _ hlt1); have hN3 := except_any w2 rs (.slice pa rs.length pc) (own_low (own_same_at hL (fun k e => hG2.block k (hL.lt k e).2 (by have := (hL.lt k e).1; have := hB.b; omega))) (Nat.zero_le _)) (by omega) (fun r hr => (hrs r hr).1) (fun r hr => (hrs r hr).2))
        | (go_at_call 56; refine hPk.mono ?_; rintro e w1 ⟨rfl, n, rfl⟩))
      go_ret
      obtain ⟨q1, q2, q3, q4⟩ := HL4.out
      exact ⟨q4, I4, B ++ [a], by rw [q3]; rfl, q1, q2.low (hG.trans hG2).size⟩
    · have hne : ¬ pkV s i1 = 93 := pkV_ne (by omega) h93
      generalize pkV s i1 = p at hPk hne
      have hnb : (p != 93) = true := by simpa using hne
      have hst := set_step hR h93
      have hPt : ∀ n, _ := fun n => part_any (wr.drewN n) b s _ _ vR (hP.rb.drewN n) hs hi1 (hP.tab.gr (hDr n) hP.own) hP.own
      simp only at hPt
      clear hR h93 hne
      cases hc : partR s i1 with
      | err er pl =>
        simp only [hc] at hPt hst
        subst hst
        clear hc
        go_wp2_with (first
          | (go_at_call 122; refine (hPt n).mono ?_; rintro e w2 ⟨hg2, x, y, i', d', rfl, hR2⟩)
          | (go_at_call 56; refine hPk.mono ?_; rintro e w1 ⟨rfl, n, rfl⟩))
        go_ret
        exact ⟨((hG.trans (hDr n)).trans hg2).trans (Gr.below (below_made w2 _)), rfl, _, _, hR2.below (below_made w2 _)⟩
      | ok a z j =>
        simp only [hc] at hPt hst
        clear hc
        obtain ⟨t1, t2, t3, t4, t5⟩ := hst
        have HR : Hid _ := t5
        clear t5
        go_wp2_with (first
          | (at_builtin
             refine wpList_append_own_at _ rfl (.tmp 34) (.tmp 36) 104 rfl w.heap.size 154 i0 (.agg #[.int .i32 0, .int .i32 0]) 2 8 Tryz.underlying104 hi hz0 hz1 hz2 rfl (by decide) (.slice pa rs.length pc) rs.length (rc rs) rfl ((HL2.out.1.alloc _).alloc _) ⟨w2.heap.size + 1, 0, none⟩ 1 1 [.int .i32 (a : Int), .int .i32 (z : Int)] rfl rfl (two_row w2 _ a z) (renc_one (a, z)) (by unfold maxLen; omega) (by omega) (by have := hbw2; simp; omega) ?_
             intro v1 w6 hn1 hg1 _ hat1
             have HPU : Hid _ := And.intro hn1 (row_push (w0 := w) (HL2.out.2.1.below (below_made w2 _)) hB hIw (HL2.out.1.alloc _) hg1 (HL2.out.2.2.trans (Gr.below (below_made w2 _))))
             clear hn1 hg1 hat1)
          | (go_at_call 122; refine (hPt n).mono ?_; rintro e w2 ⟨hg2, rfl, hR2⟩; have hG2 : Gr b wr w2 := (hDr n).trans hg2; have hbw2 : w.heap.size ≤ w2.heap.size := Nat.le_trans hszl hG2.size; have HL2 : Hid _ := And.intro (own_same_at hL (fun k e => hG2.block k (hL.lt k e).2 (by have := (hL.lt k e).1; have := hB.b; omega))) (And.intro (hP.step hG2 hR2 t4) (hG.trans hG2)); clear hg2 hR2)
          | (go_at_call 56; refine hPk.mono ?_; rintro e w1 ⟨rfl, n, rfl⟩))
        have hQ : SInv w b s c bm vR I T B E d r true v1 w6 := by
          refine ⟨rs ++ [(a, z)], j, HPU.out.2.1, ?_, HPU.out.2.2, ?_, by simp; omega, HR.out⟩
          · rw [rc_snoc]
            have := HPU.out.1
            simpa [renc] using this
          · intro q hq
            rcases List.mem_append.1 hq with hq | hq
            · exact hrs q hq
            · simp only [List.mem_singleton] at hq
              subst hq
              exact ⟨t1, t2⟩
        refine ⟨hQ, ?_⟩
        rw [HP.out, HPU.out.2.1.rb.pos]
        show s.size - j < _
        omega

set_option maxRecDepth 100000 in
set_option maxHeartbeats 4000000 in
theorem set_plain (w : World) (b : Nat) (s : ByteArray) (c : C) (bm : Nat) (vR : Value) (I : Nat → Prop) (T : List PNode) (B : List Nat) (E : List (ByteArray × Nat)) (d : Nat) (r : G.Res) (h : PS w b s c bm vR I T B E) (hlt : c.i < s.size) (h94 : G.pk s (c.i + 1) ≠ 94) (hr : G.R s E (.set false []) d (c.i + 1) T r) :
    Calls Tryz.prog 116 #[.pointer (some ⟨b, 0, none⟩)] w fun e w' => RPost w b s c bm vR I B E r e w' := by
  obtain ⟨i0, hi, hz0, hz1, hz2⟩ := info_parts infoRr
  obtain ⟨c0, c1, c2, c3, c4, c5, c6, fr⟩ := h.rb.reads
  have hs := h.sz
  have hB := h.base
  have hIw := h.tr.lt
  have hPk0 := peek_any _ b s _ _ vR h.rb.inc hs hlt
  have hne0 : ¬ pkV s (c.i + 1) = 94 := pkV_ne (by omega) h94
  change Calls _ _ _ _ (fun r w' => r = .returned (.int .u8 (pkV s (c.i + 1))) ∧ _) at hPk0
  generalize pkV s (c.i + 1) = p0 at hPk0 hne0
  have hnb0 : (p0 == 94) = false := by simpa using hne0
  clear hne0
  go_enter Tryz.func116, Tryz.ntmps116
  go_wp2_with (first
    | (go_at_call 56; refine hPk0.mono ?_; rintro e wa ⟨rfl, na, rfl⟩))
  go_loopw [4] (fun v wr => SInv w b s c bm vR I T B E d r false v wr) (fun _ wr => s.size - posOf b wr)
  case atStart => exact ⟨[], c.i + 1, h.step (Kept.drewN (Gr.set (Kept.refl _ w) _ _) _) (h.rb.inc.drewN _) hlt, World.ownsRow_nil _ _ _ _, Kept.drewN (Gr.set (Kept.refl _ w) _ _) _, by simp, by simp, hr⟩
  case round =>
    obtain ⟨rs, i1, hP, hL, hG, hrs, hpl, hR⟩ := hrel
    have HP : Hid (posOf b wr = i1) := hP.rb.pos
    have hi1 : i1 ≤ s.size := hP.ci
    have hszl := hG.size
    obtain ⟨pa, pc, hpe⟩ := Rf.own_len hL
    subst hpe
    have hPk := peek_any wr b s _ _ vR hP.rb hs hi1
    change Calls _ _ _ _ (fun r w' => r = .returned (.int .u8 (pkV s i1)) ∧ _) at hPk
    have hDr : ∀ n, Gr b wr (wr.drewN n) := fun n => Kept.drewN (Kept.refl _ wr) n
    by_cases h93 : G.pk s i1 = 93
    · obtain rfl := set_end hR h93
      rw [(pkV_eq (by omega)).2 h93] at hPk
      have hlt1 := G.lt_of_pk (s := s) (i := i1) (by omega)
      clear hR
      go_wp2_with (first
        | (go_at_call 112
           refine hN4.mono ?_
           rintro e w4 ⟨a, rfl, ha4, hblk4, hb4⟩
           have hb24 := below_then hb3 hb4
           obtain ⟨I4, hP4, hX4, _, hbl4⟩ := leaf_ps hP2 hb24 (Nat.le_trans hb3.size ha4) hblk4 (own_same_at ho3 (fun k e => hb4.block k (ho3.lt k e).2)) hok3 (fun r hr => ⟨by have := hrs r hr; omega, (hrs r hr).2⟩) (LocP.nil _ w2.heap.size I B) (by simp)
           have HL4 : Hid _ := And.intro hP4 (And.intro hX4 (And.intro hbl4 ((hG.trans hG2).trans (Gr.below hb24))))
           clear hP4 hX4 hbl4 hblk4 ha4 hb4 hb24 ho3 hok3 hb3 hN4 hN3)
        | (go_at_call 120; refine hN3.mono ?_; rintro e w3 ⟨vs, rfl, ⟨vr, rs', rfl, ho3, hok3⟩, hb3⟩; have hN4 := leaf_any w3 vr false (by obtain ⟨z1, z2, z3⟩ := Rf.own_len ho3; exact ⟨z1, _, z2, z3⟩))
        | (go_at_call 82; refine (step_any (wr.drewN n) b s _ _ vR 1 (hP.rb.drewN n) hs hlt1).mono ?_; rintro e w2 ⟨rfl, hR2, hE2⟩; have hG2 : Gr b wr w2 := (hDr n).trans hE2.kept; have hP2 := hP.step hG2 hR2 (G.skip_le s _ hlt1); have hN3 := of_any w2 rs (.slice pa rs.length pc) (own_low (own_same_at hL (fun k e => hG2.block k (hL.lt k e).2 (by have := (hL.lt k e).1; have := hB.b; omega))) (Nat.zero_le _)) (by omega) (fun r hr => (hrs r hr).1) (fun r hr => (hrs r hr).2))
        | (go_at_call 56; refine hPk.mono ?_; rintro e w1 ⟨rfl, n, rfl⟩))
      go_ret
      obtain ⟨q1, q2, q3, q4⟩ := HL4.out
      exact ⟨q4, I4, B ++ [a], by rw [q3]; rfl, q1, q2.low (hG.trans hG2).size⟩
    · have hne : ¬ pkV s i1 = 93 := pkV_ne (by omega) h93
      generalize pkV s i1 = p at hPk hne
      have hnb : (p != 93) = true := by simpa using hne
      have hst := set_step hR h93
      have hPt : ∀ n, _ := fun n => part_any (wr.drewN n) b s _ _ vR (hP.rb.drewN n) hs hi1 (hP.tab.gr (hDr n) hP.own) hP.own
      simp only at hPt
      clear hR h93 hne
      cases hc : partR s i1 with
      | err er pl =>
        simp only [hc] at hPt hst
        subst hst
        clear hc
        go_wp2_with (first
          | (go_at_call 122; refine (hPt n).mono ?_; rintro e w2 ⟨hg2, x, y, i', d', rfl, hR2⟩)
          | (go_at_call 56; refine hPk.mono ?_; rintro e w1 ⟨rfl, n, rfl⟩))
        go_ret
        exact ⟨((hG.trans (hDr n)).trans hg2).trans (Gr.below (below_made w2 _)), rfl, _, _, hR2.below (below_made w2 _)⟩
      | ok a z j =>
        simp only [hc] at hPt hst
        clear hc
        obtain ⟨t1, t2, t3, t4, t5⟩ := hst
        have HR : Hid _ := t5
        clear t5
        go_wp2_with (first
          | (at_builtin
             refine wpList_append_own_at _ rfl (.tmp 34) (.tmp 36) 104 rfl w.heap.size 154 i0 (.agg #[.int .i32 0, .int .i32 0]) 2 8 Tryz.underlying104 hi hz0 hz1 hz2 rfl (by decide) (.slice pa rs.length pc) rs.length (rc rs) rfl ((HL2.out.1.alloc _).alloc _) ⟨w2.heap.size + 1, 0, none⟩ 1 1 [.int .i32 (a : Int), .int .i32 (z : Int)] rfl rfl (two_row w2 _ a z) (renc_one (a, z)) (by unfold maxLen; omega) (by omega) (by have := hbw2; simp; omega) ?_
             intro v1 w6 hn1 hg1 _ hat1
             have HPU : Hid _ := And.intro hn1 (row_push (w0 := w) (HL2.out.2.1.below (below_made w2 _)) hB hIw (HL2.out.1.alloc _) hg1 (HL2.out.2.2.trans (Gr.below (below_made w2 _))))
             clear hn1 hg1 hat1)
          | (go_at_call 122; refine (hPt n).mono ?_; rintro e w2 ⟨hg2, rfl, hR2⟩; have hG2 : Gr b wr w2 := (hDr n).trans hg2; have hbw2 : w.heap.size ≤ w2.heap.size := Nat.le_trans hszl hG2.size; have HL2 : Hid _ := And.intro (own_same_at hL (fun k e => hG2.block k (hL.lt k e).2 (by have := (hL.lt k e).1; have := hB.b; omega))) (And.intro (hP.step hG2 hR2 t4) (hG.trans hG2)); clear hg2 hR2)
          | (go_at_call 56; refine hPk.mono ?_; rintro e w1 ⟨rfl, n, rfl⟩))
        have hQ : SInv w b s c bm vR I T B E d r false v1 w6 := by
          refine ⟨rs ++ [(a, z)], j, HPU.out.2.1, ?_, HPU.out.2.2, ?_, by simp; omega, HR.out⟩
          · rw [rc_snoc]
            have := HPU.out.1
            simpa [renc] using this
          · intro q hq
            rcases List.mem_append.1 hq with hq | hq
            · exact hrs q hq
            · simp only [List.mem_singleton] at hq
              subst hq
              exact ⟨t1, t2⟩
        refine ⟨hQ, ?_⟩
        rw [HP.out, HPU.out.2.1.rb.pos]
        show s.size - j < _
        omega

end Pr
end Go.Proofs.YtnclmcngdcncdaaGreatDoor

namespace Go.Proofs.YtnclmcngdcncdaaGreatDoor
namespace Pr
open Go.RowKit Go.Maps
open Rf (Kept)
open G (PNode)

set_option maxRecDepth 100000 in
set_option maxHeartbeats 1000000 in
theorem name_any (w : World) (b : Nat) (s : ByteArray) (c : C) (m vR : Value) (hR : RB w b s c m vR) (hs : s.size ≤ 2000) (hi : c.i < s.size) :
    Calls Tryz.prog 81 #[.pointer (some ⟨b, 0, none⟩)] w fun e w' => e = .returned (.string (G.name s c.i)) ∧ ∃ n, w' = w.drewN n := by
  obtain ⟨c0, c1, c2, c3, c4, c5, c6, fr⟩ := hR.reads
  have h0 : (0 : Int) ≤ (c.i : Int) + 1 := by omega
  have h1 : (c.i : Int) + 1 ≤ (s.size : Int) := by omega
  have hsz := extract_size s (c.i + 1) hi
  have hgr : ∀ (k : Nat) (hk : k < (s.extract (c.i + 1) s.size).size), ((s.extract (c.i + 1) s.size)[k]'hk).toNat = U.at' s (c.i + 1 + k) := by
    intro k hk
    rw [ByteArray.getElem_extract, U.at_get]
  have hcut : ∀ k, c.i + 1 + k ≤ s.size → (s.extract (c.i + 1) s.size).extract 0 k = s.extract (c.i + 1) (c.i + 1 + k) := by
    intro k hk
    rw [ByteArray.extract_extract]
    congr 1
    omega
  have hwr : IntKind.i64.wrap ((c.i : Int) + 1) = (c.i : Int) + 1 := by
    simp [IntKind.wrap, IntKind.bits, IntKind.signed]
    omega
  go_enter Tryz.func81, Tryz.ntmps81
  go_wp2
  refine wp_region_quiet_lit (by kernel_rfl) (by kernel_rfl) ?_
  repeat (first | go_big_quiet_step (fail) | quiet_step (fail))
  refine wpQuiet_nil ?_
  intro _ hw'
  obtain ⟨nq, hw''⟩ := hw'
  subst hw''
  obtain ⟨rest, hrest, hgr2, hcut2⟩ : ∃ r, r = s.extract (c.i + 1) s.size ∧ (∀ (k : Nat) (hk : k < r.size), (r[k]'hk).toNat = U.at' s (c.i + 1 + k)) ∧ ∀ k, c.i + 1 + k ≤ s.size → r.extract 0 k = s.extract (c.i + 1) (c.i + 1 + k) := ⟨_, rfl, hgr, hcut⟩
  rw [← hrest] at hsz ⊢
  clear hrest hgr hcut
  go_wp2
  go_loopw [4] (fun v wr => ∃ k : Nat, v = .int .i64 k ∧ k ≤ rest.size ∧ G.wend s (c.i + 1 + k) = G.wend s (c.i + 1) ∧ wr = w.drewN nq) (fun v _ => rest.size - (intOf v).toNat)
  case atStart => exact ⟨0, rfl, Nat.zero_le _, rfl, rfl⟩
  case round =>
    obtain ⟨k, rfl, hk, hwe, rfl⟩ := hrel
    have HW : Hid _ := hwe
    clear hwe
    by_cases hlow : G.low s (c.i + 1 + k) = true
    · obtain ⟨l1, l2, l3⟩ := (G.low_iff s _).1 hlow
      have hkr : k < rest.size := by omega
      have hg := hgr2 k hkr
      have hkr' : (k : Int) < (rest.size : Int) := by omega
      have g1 : (97 : Int) ≤ ((rest[k]'hkr).toNat : Int) := by omega
      have g2 : ((rest[k]'hkr).toNat : Int) ≤ 122 := by omega
      have HE := G.wend_step hlow
      have HE2 : Hid _ := HE
      clear HE hg hgr2 hlow
      go_wp2
      refine ⟨⟨k + 1, by go_num, by omega, ?_, by first | rfl | trivial⟩, by simp [intOf]; omega⟩
      rw [← HW.out, HE2.out]
      congr 1
    · have HE : Hid (G.wend s (c.i + 1 + k) = c.i + 1 + k) := G.wend_end hlow
      have hex : Hid (rest.extract 0 k = G.name s c.i) := by
        show rest.extract 0 k = _
        rw [hcut2 k (by omega), G.name, ← HW.out, HE.out]
      have hk0 : (k : Int) ≤ (rest.size : Int) := by omega
      by_cases hkr : k < rest.size
      · have hg := hgr2 k hkr
        have hkr' : (k : Int) < (rest.size : Int) := by omega
        have hnl : ¬ (97 ≤ U.at' s (c.i + 1 + k) ∧ U.at' s (c.i + 1 + k) ≤ 122) := fun hh => hlow ((G.low_iff s _).2 ⟨by omega, hh.1, hh.2⟩)
        rcases (by omega : (rest[k]'hkr).toNat < 97 ∨ (97 ≤ (rest[k]'hkr).toNat ∧ 122 < (rest[k]'hkr).toNat)) with g | ⟨g, g'⟩
        · have g1 : ¬ (97 : Int) ≤ ((rest[k]'hkr).toNat : Int) := by omega
          clear hg hgr2 hlow hcut2 g hnl
          go_wp2
          go_ret
          exact ⟨by rw [← hex.out]; rfl, _, rfl⟩
        · have g1 : (97 : Int) ≤ ((rest[k]'hkr).toNat : Int) := by omega
          have g2 : ¬ ((rest[k]'hkr).toNat : Int) ≤ 122 := by omega
          clear hg hgr2 hlow hcut2 g g' hnl
          go_wp2
          go_ret
          exact ⟨by rw [← hex.out]; rfl, _, rfl⟩
      · have hkr' : ¬ (k : Int) < (rest.size : Int) := by omega
        clear hgr2 hlow hcut2
        go_wp2
        go_ret
        exact ⟨by rw [← hex.out]; rfl, _, rfl⟩

theorem keyLaw : Keyed Tryz.prog 9 := string_keyed Tryz.underlying9
/-- A name is looked up. -/
theorem EnvAt.look {w : World} {bm : Nat} {E : List (ByteArray × Nat)} {B : List Nat} (h : EnvAt w bm E B) (nm : ByteArray) (hn : nm.size ≤ maxLen) : (Instr.lookup 99 (.map (some bm)) (.string nm) false).run Tryz.prog w = .ok (envV E B nm) w := by
  obtain ⟨D, n, h1, _, h3⟩ := h
  obtain ⟨v, ps, hrun, hv⟩ := h1.lookup keyLaw Tryz.underlying99 (Tryz.zeroValue102 w) (zd := .held (.pointer none)) (zp := []) rfl (Go.WideMaps.keyOf_string_mk Tryz.underlying9 hn)
  rw [hrun]
  rw [h3 nm hn] at hv
  simp only [heldR, Option.some.injEq, Prod.mk.injEq, DataW.held.injEq] at hv
  rw [hv.1]

theorem name_size (s : ByteArray) (i : Nat) (hi : i < s.size) : (G.name s i).size = G.wend s (i + 1) - (i + 1) := by
  have := G.wend_le s (i + 1) (by omega)
  simp [G.name, ByteArray.size_extract]
  omega

set_option maxRecDepth 100000 in
set_option maxHeartbeats 1000000 in
theorem use_any (w : World) (b : Nat) (s : ByteArray) (c : C) (bm : Nat) (vR : Value) (I : Nat → Prop) (T : List PNode) (B : List Nat) (E : List (ByteArray × Nat)) (d : Nat) (r : G.Res) (h : PS w b s c bm vR I T B E) (h36 : G.pk s c.i = 36) (hr : G.R s E .atom d c.i T r) :
    Calls Tryz.prog 114 #[.pointer (some ⟨b, 0, none⟩)] w fun e w' => RPost w b s c bm vR I B E r e w' := by
  have hs := h.sz
  have hlt := G.lt_of_pk (s := s) (i := c.i) (by omega)
  have hN := name_any w b s c _ vR h.rb hs hlt
  have hnz := name_size s c.i hlt
  have hwl := G.wend_le s (c.i + 1) (by omega)
  have hwg := G.wend_ge s (c.i + 1)
  obtain ⟨c0, c1, c2, c3, c4, c5, c6, fr⟩ := h.rb.reads
  have hDr : ∀ n, Gr b w (w.drewN n) := fun n => Kept.drewN (Kept.refl _ w) n
  have hlook : ∀ n, _ := fun n => (h.env.kept (w' := w.drewN n) rfl).look (G.name s c.i) (by unfold maxLen; omega)
  have hcase : (G.wend s (c.i + 1) = c.i + 1 ∧ r = .err 2 c.i) ∨ (G.wend s (c.i + 1) ≠ c.i + 1 ∧ ((G.lookup E (G.name s c.i) = none ∧ r = .err 3 c.i) ∨ ∃ n, G.lookup E (G.name s c.i) = some n ∧ r = .ok n (G.wend s (c.i + 1)) T)) := by
    cases hr with
    | nameForm _ h2 => exact .inl ⟨h2, rfl⟩
    | nameErr _ h2 h3 => exact .inr ⟨h2, .inl ⟨h3, rfl⟩⟩
    | name _ h2 h3 => exact .inr ⟨h2, .inr ⟨_, h3, rfl⟩⟩
    | deep h1 => omega
    | parenErr h1 => omega
    | parenForm h1 => omega
    | paren h1 => omega
    | dot h1 => omega
    | quote h1 => omega
    | setNot h1 => omega
    | set h1 => omega
  clear hr
  rcases hcase with ⟨h2, rfl⟩ | ⟨h2, ⟨h3, rfl⟩ | ⟨n0, h3, rfl⟩⟩
  · generalize G.name s c.i = nm at *
    have hemp : nm.toList.isEmpty = true := by
      rw [← decide_eq_emptyBytes]
      exact decide_eq_true (ByteArray.size_eq_zero_iff.1 (by omega))
    clear hlook
    go_enter Tryz.func114, Tryz.ntmps114
    go_wp2_with (first
      | (go_at_call 81; refine hN.mono ?_; rintro e w1 ⟨rfl, n, rfl⟩)
      | (go_at_call 84; refine (fail_any (w.drewN n) b s c _ vR c.i 2 (h.rb.drewN n)).mono ?_; rintro e w2 ⟨rfl, hR2, hE2⟩))
    go_ret
    exact ⟨(hDr n).trans hE2.kept, rfl, _, _, hR2⟩
  · have hv : envV E B (G.name s c.i) = .pointer none := by rw [envV, h3]
    rw [hv] at hlook
    clear h3 hv
    generalize G.name s c.i = nm at *
    have hemp : nm.toList.isEmpty = false := by
      rw [← decide_eq_emptyBytes]
      exact decide_eq_false (fun h => by rw [h] at hnz; have : (ByteArray.empty).size = 0 := rfl; omega)
    go_enter Tryz.func114, Tryz.ntmps114
    go_wp2_with (first
      | (go_at_call 81; refine hN.mono ?_; rintro e w1 ⟨rfl, n, rfl⟩; have hl := hlook n)
      | (go_at_call 84; refine (fail_any (w.drewN n) b s c _ vR c.i 3 (h.rb.drewN n)).mono ?_; rintro e w2 ⟨rfl, hR2, hE2⟩))
    go_ret
    exact ⟨(hDr n).trans hE2.kept, rfl, _, _, hR2⟩
  · have hv : envV E B (G.name s c.i) = pv (bl B n0) := by rw [envV, h3]
    rw [hv] at hlook
    clear h3 hv
    generalize G.name s c.i = nm at *
    have hemp : nm.toList.isEmpty = false := by
      rw [← decide_eq_emptyBytes]
      exact decide_eq_false (fun h => by rw [h] at hnz; have : (ByteArray.empty).size = 0 := rfl; omega)
    have hnb : nm.size ≤ 2000 := by omega
    have hst : ∀ n, _ := fun n => step_any (w.drewN n) b s c _ vR (1 + nm.size) (h.rb.drewN n) hs (by omega)
    have he : c.i + (1 + nm.size) = G.wend s (c.i + 1) := by omega
    rw [he] at hst
    have hcast : ((1 + nm.size : Nat) : Int) = 1 + (nm.size : Int) := by omega
    rw [hcast] at hst
    clear hnz hcast he
    go_enter Tryz.func114, Tryz.ntmps114
    go_wp2_with (first
      | (go_at_call 81; refine hN.mono ?_; rintro e w1 ⟨rfl, n, rfl⟩; have hl := hlook n)
      | (go_at_call 82; refine (hst n).mono ?_; rintro e w2 ⟨rfl, hR2, hE2⟩))
    go_ret
    exact ⟨(hDr n).trans hE2.kept, I, B, rfl, h.step ((hDr n).trans hE2.kept) hR2 (G.skip_le s _ hwl), Ext.refl _ _ _⟩

end Pr
end Go.Proofs.YtnclmcngdcncdaaGreatDoor
