/-
  THE PROGRAM's READER: the walk of quote: what the form says of a quote, as a tree. Conditions: the reader stands at the quote's beginning.
  THE PROGRAM's READER: the walk of quote: what the form says of a quote, as a tree. Conditions: the reader stands at the quote's beginning.
-/
import Derived.Test.YtpgcidpghmoibaaGreatDoorK37
namespace Go.Proofs.YtpgcidpghmoibaaGreatDoor
namespace Pr
open Go.RowKit Go.Maps
open Rf (Kept)
open G (PNode)
theorem infoP : (Tryz.prog.info? 143).map (fun i => (i.zero, i.size, i.bytes)) = some (some (.pointer none), 1, 8) := by kernel_rfl
structure LocP (w : World) (base : Nat) (I : Nat → Prop) (B : List Nat) (v : Value) (ps : List Nat) : Prop where
  own : w.ownsRow base 143 1 v ps.length (ptrs B ps)
  out : ∀ k, v.ownBlock = some k → ¬ I k
theorem LocP.nil (w : World) (base : Nat) (I : Nat → Prop) (B : List Nat) : LocP w base I B (.slice none 0 0) [] := ⟨World.ownsRow_nil _ _ _ _, fun k e => by simp [Value.ownBlock] at e⟩
theorem LocP.gr {w w' : World} {base : Nat} {I : Nat → Prop} {B : List Nat} {v : Value} {ps : List Nat} {b : Nat} (h : LocP w base I B v ps) (hg : Gr b w w') (hb : b < base) : LocP w' base I B v ps :=
  ⟨own_same_at h.own (fun k e => hg.block k (h.own.lt k e).2 (by have := (h.own.lt k e).1; omega)), h.out⟩
theorem LocP.below {w w' : World} {base : Nat} {I : Nat → Prop} {B : List Nat} {v : Value} {ps : List Nat} (h : LocP w base I B v ps) (hg : Below w.heap.size w w') : LocP w' base I B v ps :=
  ⟨own_same_at h.own (fun k e => hg.block k (h.own.lt k e).2), h.out⟩
theorem LocP.ext {w w0 : World} {base : Nat} {B B' : List Nat} {v : Value} {ps : List Nat} {I I' : Nat → Prop} (h : LocP w base I B v ps) (he : Ext w0 I B I' B') (hp : ∀ p ∈ ps, p < B.length) (hl : ∀ k, v.ownBlock = some k → k < w0.heap.size) : LocP w base I' B' v ps :=
  ⟨by rw [he.ptrs hp]; exact h.own, fun k e hk => by
    rcases he.new k hk with h2 | h2
    · exact h.out k e h2
    · have := hl k e
      omega⟩
theorem grow_gr {b : Nat} {w0 w w6 : World} {o : Obj} {v : Value} {base : Nat} (hg0 : Gr b w0 w) (hbase : w0.heap.size ≤ base) (hv : ∀ k, v.ownBlock = some k → base ≤ k) (hg : (w.alloc o).grownBy w6 v.ownBlock) : Gr b w0 w6 :=
  (hg0.alloc o).grown hg (fun k e hk => by have := hv k e; omega)
theorem grow_ps {w w6 : World} {b : Nat} {s : ByteArray} {c : C} {bm : Nat} {vR : Value} {I : Nat → Prop} {T : List PNode} {B : List Nat} {E : List (ByteArray × Nat)} {o : Obj} {v : Value} (h : PS w b s c bm vR I T B E) (hg : (w.alloc o).grownBy w6 v.ownBlock) (hI : ∀ k, v.ownBlock = some k → ¬ I k) (hb : v.ownBlock ≠ some b) (hm : v.ownBlock ≠ some bm) (ht : ∀ k, v.ownBlock = some k → Own k) : PS w6 b s c bm vR I T B E := by
  have hk : ∀ k, k < w.heap.size → v.ownBlock ≠ some k → w6.heap[k]? = w.heap[k]? := fun k hk hn => (hg.block k (by simp; omega) (fun e => hn e.symm)).trans (Below.heap_alloc _ _ _ hk)
  have hsz : w.heap.size ≤ w6.heap.size := by have := hg.size; simp at this; omega
  have hkp : Kept (fun k => v.ownBlock ≠ some k) w w6 := ⟨hg.os, hg.tape, hg.output, hsz, hk⟩
  exact {
    rb := h.rb.kept hkp hb
    tr := h.tr.same hsz (fun k hI2 => hk k (h.tr.lt k hI2) (fun e => hI k e hI2))
    env := h.env.kept (hk bm h.env.lt hm)
    tab := h.tab.kept hkp (fun e => (ht _ e).1 rfl) (fun e => (ht _ e).2.1 rfl) (fun e => (ht _ e).2.2 rfl)
    own := h.own, nb := h.nb, nm := h.nm, bb := h.bb, wf := h.wf, el := h.el, ci := h.ci, sz := h.sz }
structure Base (base b bm : Nat) : Prop where
  b : b < base
  m : bm < base
  t : ∀ k, base ≤ k → Own k
theorem PS.base {w : World} {b : Nat} {s : ByteArray} {c : C} {bm : Nat} {vR : Value} {I : Nat → Prop} {T : List PNode} {B : List Nat} {E : List (ByteArray × Nat)} (h : PS w b s c bm vR I T B E) : Base w.heap.size b bm := by
  obtain ⟨h1, h2, h3⟩ := h.tab.lt
  exact ⟨h.rb.lt, h.env.lt, fun k hk => ⟨by omega, by omega, by omega⟩⟩
theorem LocP.push {w w6 : World} {b : Nat} {s : ByteArray} {c : C} {bm : Nat} {vR : Value} {I : Nat → Prop} {T : List PNode} {B : List Nat} {E : List (ByteArray × Nat)} {base : Nat} {v v1 : Value} {ps : List Nat} {n : Nat} {o : Obj}
    (h : PS w b s c bm vR I T B E) (hB : Base base b bm) (hL : LocP w base I B v ps) (hn1 : w6.ownsRow base 143 1 v1 (ps.length + 1) (ptrs B ps ++ [pv (bl B n)])) (hg : (w.alloc o).grownBy w6 v.ownBlock) (hat : v1.ownBlock = v.ownBlock ∨ v1.ownBlock = some (w.alloc o).heap.size) :
    PS w6 b s c bm vR I T B E ∧ LocP w6 base I B v1 (ps ++ [n]) ∧ ∀ w0 : World, w0.heap.size ≤ base → Gr b w0 w → Gr b w0 w6 := by
  have hk : ∀ k, v.ownBlock = some k → base ≤ k := fun k e => (hL.own.lt k e).1
  have hb := hB.b
  have hm := hB.m
  refine ⟨grow_ps h hg hL.out (fun e => by have := hk b e; omega) (fun e => by have := hk bm e; omega) (fun k e => hB.t k (hk k e)), ⟨?_, ?_⟩, fun w0 h0 hg0 => grow_gr hg0 h0 hk hg⟩
  · rw [ptrs_snoc]
    simpa using hn1
  · intro k e hI
    rcases hat with e2 | e2
    · exact hL.out k (e2 ▸ e) hI
    · have e3 : (w.alloc o).heap.size = k := by rw [e] at e2; simpa using e2.symm
      have := h.tr.lt k hI
      simp at e3
      omega
theorem Tree.sz_le {w : World} {I : Nat → Prop} {T : List PNode} {B : List Nat} (_h : Tree w I T B) (hT : G.WF T) (p : Nat) (hp : p < T.length) : G.sz T p ≤ 101 := by
  have hx := List.getElem?_eq_getElem hp
  rw [G.sz_eq hx]
  exact hT.le _ (List.mem_of_getElem? hx)
theorem join_ps (w0 w : World) (b : Nat) (s : ByteArray) (c : C) (bm : Nat) (vR : Value) (I : Nat → Prop) (T : List PNode) (B : List Nat) (E : List (ByteArray × Nat)) (k code : Nat) (hk : (k = 113 ∧ code = 1) ∨ (k = 99 ∧ code = 2)) (v : Value) (ps : List Nat)
    (h : PS w b s c bm vR I T B E) (hB : Base w0.heap.size b bm) (h0 : w0.heap.size ≤ w.heap.size) (hL : LocP w w0.heap.size I B v ps) (hne : ps ≠ []) (hps : ∀ p ∈ ps, p < T.length) (hn : ps.length ≤ 100000) :
    Calls Tryz.prog 129 #[.int .i64 (code : Int), v] w fun e w' => ∃ I' B', e = .returned (pv (bl B' T.length)) ∧ PS w' b s c bm vR I' (T ++ [G.mk T k [] false ps]) B' E ∧ Ext w0 I B I' B' ∧ Below w.heap.size w w' := by
  have hk2 : k = 113 ∨ k = 99 := by omega
  by_cases h1 : ps.length = 1
  · obtain ⟨p, rfl⟩ := List.length_eq_one_iff.1 h1
    refine (join_one w B code p v (own_low hL.own (Nat.zero_le _))).mono ?_
    rintro e w' ⟨rfl, rfl⟩
    refine ⟨I, B ++ [bl B p], ?_, h.alone hk2 (hps p (by simp)), ⟨fun _ h => h, fun _ h => .inl h, _, rfl⟩, Below.refl _ _⟩
    rw [← h.tr.len, bl_new]
  · refine (join_many w T B ps code v (own_low hL.own (Nat.zero_le _)) h1 hn (fun p hp => h.tr.places h.wf p (hps p hp)) (fun p hp => h.tr.sz_le h.wf p (hps p hp))).mono ?_
    rintro e w' ⟨a, rfl, ha, hblk, hb⟩
    have hkn : kindN k = code := by rcases hk with ⟨rfl, rfl⟩ | ⟨rfl, rfl⟩ <;> rfl
    obtain ⟨I', hp', he'⟩ := (h.below hb).inner (w0 := w0) hB.b hB.m (Nat.le_trans h0 ha) (.inl ⟨hk2, hne, h1⟩) hps (by rw [hkn]; exact hblk) (own_same_at hL.own (fun j e => hb.block j (hL.own.lt j e).2))
    refine ⟨I', B ++ [a], ?_, hp', he', hb⟩
    rw [← h.tr.len, bl_new]
end Pr
end Go.Proofs.YtpgcidpghmoibaaGreatDoor

namespace Go.Proofs.YtpgcidpghmoibaaGreatDoor
namespace Pr
open Go.RowKit Go.Maps
open Rf (Kept)
open G (PNode)
def QSt (s : ByteArray) (E : List (ByteArray × Nat)) (d : Nat) (r : G.Res) (ps : List Nat) (i : Nat) (T : List PNode) : Prop :=
  ((ps = [] ∨ G.pk s i ≠ 39) ∧ G.R s E (.quote ps) d i T r) ∨ (ps ≠ [] ∧ G.pk s i = 39 ∧ r = .ok T.length (i + 1) (T ++ [G.mk T 113 [] false ps]))
theorem QSt.none {s : ByteArray} {E : List (ByteArray × Nat)} {d : Nat} {r : G.Res} {ps : List Nat} {i : Nat} {T : List PNode} (h : G.R s E (.quote ps) d i T r) (hc : G.chr s 39 39 i = none) : r = .err 2 i := by
  cases h with
  | quoteErr _ => rfl
  | quoteEnd h1 _ => rw [hc] at h1; cases h1
  | quoteMore h1 _ _ => rw [hc] at h1; cases h1
theorem QSt.some {s : ByteArray} {E : List (ByteArray × Nat)} {d : Nat} {r : G.Res} {ps : List Nat} {i x j : Nat} {T : List PNode} (h : G.R s E (.quote ps) d i T r) (hc : G.chr s 39 39 i = some (x, j)) : QSt s E d r (ps ++ [T.length]) j (T ++ [G.mk T 115 [(x, x)] false []]) := by
  cases h with
  | quoteErr h1 => rw [hc] at h1; cases h1
  | quoteEnd h1 h2 =>
    rw [hc] at h1
    cases h1
    exact .inr ⟨by simp, h2, by simp⟩
  | quoteMore h1 h2 h3 =>
    rw [hc] at h1
    cases h1
    exact .inl ⟨.inr h2, h3⟩
def QInv (w0 : World) (b : Nat) (s : ByteArray) (c : C) (bm : Nat) (vR : Value) (I : Nat → Prop) (B : List Nat) (E : List (ByteArray × Nat)) (d : Nat) (r : G.Res) (v : Value) (wr : World) : Prop :=
  ∃ ps T1 B1 I1 i1, PS wr b s { c with i := i1 } bm vR I1 T1 B1 E ∧ LocP wr w0.heap.size I1 B1 v ps ∧ Ext w0 I B I1 B1 ∧ Gr b w0 wr ∧ (∀ p ∈ ps, p < T1.length) ∧ ps.length ≤ i1 ∧ QSt s E d r ps i1 T1
theorem leaf_ps {w1 w4 : World} {b : Nat} {s : ByteArray} {c : C} {bm : Nat} {vR : Value} {I : Nat → Prop} {T : List PNode} {B : List Nat} {E : List (ByteArray × Nat)} {rs : List (Nat × Nat)} {o : Bool} {vr : Value} {rs' : List (Nat × Nat)} {a base : Nat} {v : Value} {ps : List Nat}
    (hP : PS w1 b s c bm vR I T B E) (hb : Below w1.heap.size w1 w4) (ha : w1.heap.size ≤ a) (hblk : w4.heap[a]? = some (.cells (leafCells vr o) 149 (0, 0))) (ho : w4.ownsRow w1.heap.size 197 2 vr rs'.length (rc rs')) (hok : SetOk rs' rs) (hbd : ∀ r ∈ rs, r.1 ≤ 1114111 ∧ r.2 ≤ 1114111) (hL : LocP w1 base I B v ps) (hps : ∀ p ∈ ps, p < T.length) :
    ∃ I4, PS w4 b s c bm vR I4 (T ++ [G.mk T 115 rs o []]) (B ++ [a]) E ∧ Ext w1 I B I4 (B ++ [a]) ∧ LocP w4 base I4 (B ++ [a]) v ps ∧ bl (B ++ [a]) T.length = a := by
  obtain ⟨I4, h4, hX⟩ := (hP.below hb).leaf (w0 := w1) hP.base.b hP.base.m ha hblk ho hok hbd
  refine ⟨I4, h4, hX, (hL.below hb).ext hX (fun p hp => by rw [hP.tr.len]; exact hps p hp) (fun k e => (hL.own.lt k e).2), ?_⟩
  rw [← hP.tr.len, bl_new]
theorem lt_snoc' (T : List PNode) (x : PNode) (ps : List Nat) (h : ∀ p ∈ ps, p < T.length) : ∀ p ∈ ps ++ [T.length], p < (T ++ [x]).length := by
  intro p hp
  rcases List.mem_append.1 hp with hp | hp
  · have := h p hp
    simp
    omega
  · simp only [List.mem_singleton] at hp
    subst hp
    simp
theorem below_made (w : World) (o : Obj) : Below w.heap.size w (w.alloc o) := (Below.refl _ w).alloc (Nat.le_refl _) o
theorem below_then {a b c : World} (h : Below a.heap.size a b) (g : Below b.heap.size b c) : Below a.heap.size a c := h.trans (g.mono h.size)
set_option maxRecDepth 100000 in
set_option maxHeartbeats 4000000 in
theorem quote_any (w : World) (b : Nat) (s : ByteArray) (c : C) (bm : Nat) (vR : Value) (I : Nat → Prop) (T : List PNode) (B : List Nat) (E : List (ByteArray × Nat)) (d : Nat) (r : G.Res) (h : PS w b s c bm vR I T B E) (hlt : c.i < s.size) (hr : G.R s E (.quote []) d (c.i + 1) T r) :
    Calls Tryz.prog 156 #[.pointer (some ⟨b, 0, none⟩)] w fun e w' => RPost w b s c bm vR I B E r e w' := by
  obtain ⟨i0, hi, hz0, hz1, hz2⟩ := info_parts infoP
  obtain ⟨c0, c1, c2, c3, c4, c5, c6, fr⟩ := h.rb.reads
  have hs := h.sz
  have hB := h.base
  go_enter Tryz.func156, Tryz.ntmps156
  go_wp2
  go_loopw [3] (fun v wr => QInv w b s c bm vR I B E d r v wr) (fun _ wr => s.size - posOf b wr)
  case atStart => exact ⟨[], T, B, I, c.i + 1, h.step (Gr.set (Kept.refl _ w) _ _) h.rb.inc hlt, LocP.nil _ _ _ _, Ext.refl _ _ _, Gr.set (Kept.refl _ w) _ _, by simp, by simp, .inl ⟨.inl rfl, hr⟩⟩
  case round =>
    obtain ⟨ps, T1, B1, I1, i1, hP, hL, hX, hG, hps, hpl, hst⟩ := hrel
    have HP : Hid (posOf b wr = i1) := hP.rb.pos
    have hi1 : i1 ≤ s.size := hP.ci
    have hszl := hG.size
    obtain ⟨pa, pc, hpe⟩ := Rf.own_len hL.own
    subst hpe
    clear c0 c1 c2 c3 c4 c5 c6 fr
    have hPk := peek_any wr b s _ _ vR hP.rb hs hi1
    have hCh : ∀ n, _ := fun n => char_any (wr.drewN n) b s _ _ vR ⟨#[39]⟩ 39 39 (.inl ⟨rfl, rfl, rfl⟩) (hP.rb.drewN n) hs hi1 (hP.tab.below ((Kept.drewN (Kept.refl (fun _ => True) wr) n).all))
    have hDr : ∀ n, Gr b wr (wr.drewN n) := fun n => Kept.drewN (Kept.refl _ wr) n
    change Calls _ _ _ _ (fun r w' => r = .returned (.int .u8 (pkV s i1)) ∧ _) at hPk
    rcases hst with ⟨hmore, hR⟩ | ⟨hne, h39, rfl⟩
    · cases hc : G.chr s 39 39 i1 with
      | none =>
        obtain rfl := QSt.none hR hc
        simp only [hc] at hCh
        clear hR hc
        by_cases hps0 : ps.length = 0
        · have hCh0 := hCh 0
          change Calls _ _ _ wr _ at hCh0
          rw [hps0]
          go_wp2_with (go_at_call 160; refine hCh0.mono ?_; rintro e w1 ⟨hg1, rfl, hR1⟩)
          go_ret
          exact ⟨hG.trans hg1, rfl, _, _, hR1⟩
        · have hne : ¬ pkV s i1 = 39 := pkV_ne (by omega) (by rcases hmore with h | h; exact absurd (by rw [h]; rfl) hps0; exact h)
          generalize pkV s i1 = p at hPk hne
          have hnb : (p != 39) = true := by simpa using hne
          have hlb : ((ps.length : Int) == 0) = false := by simpa using hps0
          go_wp2_with (first
            | (go_at_call 160; refine (hCh n).mono ?_; rintro e w2 ⟨hg2, rfl, hR2⟩)
            | (go_at_call 98; refine hPk.mono ?_; rintro e w1 ⟨rfl, n, rfl⟩))
          go_ret
          exact ⟨(hG.trans (hDr n)).trans hg2, rfl, _, _, hR2⟩
      | some q =>
        obtain ⟨x, j⟩ := q
        have hst := QSt.some hR hc
        have hbd := G.chr_bd hc
        simp only [hc] at hCh
        clear hR hc
        have HS : Hid _ := hst
        clear hst
        have hmain : ∀ (w1 : World), Gr b wr w1 → RB w1 b s { c with i := j } (.map (some bm)) vR → PS w1 b s { c with i := j } bm vR I1 T1 B1 E := fun w1 hg hR => hP.step hg hR hbd.2.1
        by_cases hps0 : ps.length = 0
        · have hCh0 := hCh 0
          change Calls _ _ _ wr _ at hCh0
          have hpn : ps = [] := by simpa using hps0
          subst hpn
          go_wp2_with (first
            | (at_builtin
               refine wpList_append_own_at _ rfl (.tmp 28) (.tmp 34) 105 rfl w.heap.size 143 i0 (.pointer none) 1 8 Tryz.underlying105 hi hz0 hz1 hz2 rfl (by decide) (.slice pa ([] : List Nat).length pc) ([] : List Nat).length (ptrs (B1 ++ [a]) []) rfl (HL4.out.2.1.own.alloc _) ⟨w4.heap.size, 0, none⟩ 1 1 [pv a] rfl rfl (cell_one_new _ _ _) (fun y hy => by simp at hy; subst hy; rfl) (by unfold maxLen; omega) (by omega) (by have := hbw4; simp; omega) ?_
               intro v1 w6 hn1 hg1 _ hat1
               have HPU : Hid _ := LocP.push (n := T1.length) HL4.out.1 hB HL4.out.2.1 (by rw [HL4.out.2.2.2]; exact hn1) hg1 hat1
               clear hn1 hg1 hat1)
            | (go_at_call 153
               refine hN4.mono ?_
               rintro e w4 ⟨a, rfl, ha4, hblk4, hb4⟩
               have hb14 := below_then (below_then (below_then hb2 (below_made w2 _)) hb3) hb4
               have hbw4 : w.heap.size ≤ w4.heap.size := Nat.le_trans (Nat.le_trans hszl HG1.out.1.size) hb14.size
               obtain ⟨I4, hP4, hX4, hL4, hbl4⟩ := leaf_ps HG1.out.2 hb14 (Nat.le_trans (below_then (below_then hb2 (below_made w2 _)) hb3).size ha4) hblk4 (own_low (own_same_at ho3 (fun k e => hb4.block k (ho3.lt k e).2)) (below_then hb2 (below_made w2 _)).size) hok3 (by simp; omega) (hL.gr HG1.out.1 hB.b) hps
               have HL4 : Hid _ := And.intro hP4 (And.intro hL4 (And.intro hX4 hbl4))
               have HBW : Hid _ := hb14
               clear hP4 hX4 hL4 hbl4 hblk4 ha4 hb4 hb14 ho3 hok3 hb3 hb2 hN4 hN3)
            | (go_at_call 161; refine hN3.mono ?_; rintro e w3 ⟨vs, rfl, ⟨vr, rs', rfl, ho3, hok3⟩, hb3⟩; have hN4 := leaf_any w3 vr false (by obtain ⟨z1, z2, z3⟩ := Rf.own_len ho3; exact ⟨z1, _, z2, z3⟩))
            | (go_at_call 162; refine (one_any w1 (x : Int)).mono ?_; rintro e w2 ⟨rfl, hb2⟩; have hN3 := of_any (w2.alloc (.cells #[.int .i32 (x : Int), .int .i32 (x : Int)] 197)) [(x, x)] (.slice (some ⟨w2.heap.size, 0, none⟩) 1 1) (own_made w2 0 197 2 1 #[.int .i32 (x : Int), .int .i32 (x : Int)] (Nat.zero_le _) rfl (by unfold maxLen; omega)) (by simp) (by simp) (by simp; omega))
            | (go_at_call 160; refine hCh0.mono ?_; rintro e w1 ⟨hg1, rfl, hR1⟩; have HG1 : Hid (Gr b wr w1 ∧ PS w1 b s { c with i := j } bm vR I1 T1 B1 E) := ⟨hg1, hmain w1 hg1 hR1⟩; clear hg1 hR1))
          have hQ : QInv w b s c bm vR I B E d r v1 w6 := by
            refine ⟨([] : List Nat) ++ [T1.length], T1 ++ [G.mk T1 115 [(x, x)] false []], B1 ++ [a], I4, j, HPU.out.1, HPU.out.2.1, hX.trans (hG.trans HG1.out.1).size HL4.out.2.2.1, HPU.out.2.2 w (Nat.le_refl _) ((hG.trans HG1.out.1).trans (Gr.below HBW.out)), lt_snoc' _ _ _ hps, ?_, HS.out⟩
            simp
            omega
          refine ⟨hQ, ?_⟩
          rw [HP.out, HPU.out.1.rb.pos]
          show s.size - j < _
          omega
        · have hne : ¬ pkV s i1 = 39 := pkV_ne (by omega) (by rcases hmore with h | h; exact absurd (by rw [h]; rfl) hps0; exact h)
          generalize pkV s i1 = p at hPk hne
          have hnb : (p != 39) = true := by simpa using hne
          have hlb : ((ps.length : Int) == 0) = false := by simpa using hps0
          go_wp2_with (first
            | (at_builtin
               refine wpList_append_own_at _ rfl (.tmp 28) (.tmp 34) 105 rfl w.heap.size 143 i0 (.pointer none) 1 8 Tryz.underlying105 hi hz0 hz1 hz2 rfl (by decide) (.slice pa ps.length pc) ps.length (ptrs (B1 ++ [a]) ps) rfl (HL4.out.2.1.own.alloc _) ⟨w4.heap.size, 0, none⟩ 1 1 [pv a] rfl rfl (cell_one_new _ _ _) (fun y hy => by simp at hy; subst hy; rfl) (by unfold maxLen; omega) (by omega) (by have := hbw4; simp; omega) ?_
               intro v1 w6 hn1 hg1 _ hat1
               have HPU : Hid _ := LocP.push (n := T1.length) HL4.out.1 hB HL4.out.2.1 (by rw [HL4.out.2.2.2]; exact hn1) hg1 hat1
               clear hn1 hg1 hat1)
            | (go_at_call 153
               refine hN4.mono ?_
               rintro e w4 ⟨a, rfl, ha4, hblk4, hb4⟩
               have hb14 := below_then (below_then (below_then hb2 (below_made w2 _)) hb3) hb4
               have hbw4 : w.heap.size ≤ w4.heap.size := Nat.le_trans (Nat.le_trans hszl HG1.out.1.size) hb14.size
               obtain ⟨I4, hP4, hX4, hL4, hbl4⟩ := leaf_ps HG1.out.2 hb14 (Nat.le_trans (below_then (below_then hb2 (below_made w2 _)) hb3).size ha4) hblk4 (own_low (own_same_at ho3 (fun k e => hb4.block k (ho3.lt k e).2)) (below_then hb2 (below_made w2 _)).size) hok3 (by simp; omega) (hL.gr HG1.out.1 hB.b) hps
               have HL4 : Hid _ := And.intro hP4 (And.intro hL4 (And.intro hX4 hbl4))
               have HBW : Hid _ := hb14
               clear hP4 hX4 hL4 hbl4 hblk4 ha4 hb4 hb14 ho3 hok3 hb3 hb2 hN4 hN3)
            | (go_at_call 161; refine hN3.mono ?_; rintro e w3 ⟨vs, rfl, ⟨vr, rs', rfl, ho3, hok3⟩, hb3⟩; have hN4 := leaf_any w3 vr false (by obtain ⟨z1, z2, z3⟩ := Rf.own_len ho3; exact ⟨z1, _, z2, z3⟩))
            | (go_at_call 162; refine (one_any w1 (x : Int)).mono ?_; rintro e w2 ⟨rfl, hb2⟩; have hN3 := of_any (w2.alloc (.cells #[.int .i32 (x : Int), .int .i32 (x : Int)] 197)) [(x, x)] (.slice (some ⟨w2.heap.size, 0, none⟩) 1 1) (own_made w2 0 197 2 1 #[.int .i32 (x : Int), .int .i32 (x : Int)] (Nat.zero_le _) rfl (by unfold maxLen; omega)) (by simp) (by simp) (by simp; omega))
            | (go_at_call 160; refine (hCh n).mono ?_; rintro e w1 ⟨hg1, rfl, hR1⟩; have HG1 : Hid (Gr b wr w1 ∧ PS w1 b s { c with i := j } bm vR I1 T1 B1 E) := ⟨(hDr n).trans hg1, hmain w1 ((hDr n).trans hg1) hR1⟩; clear hg1 hR1)
            | (go_at_call 98; refine hPk.mono ?_; rintro e wn ⟨rfl, n, rfl⟩))
          have hQ : QInv w b s c bm vR I B E d r v1 w6 := by
            refine ⟨ps ++ [T1.length], T1 ++ [G.mk T1 115 [(x, x)] false []], B1 ++ [a], I4, j, HPU.out.1, HPU.out.2.1, hX.trans (hG.trans HG1.out.1).size HL4.out.2.2.1, HPU.out.2.2 w (Nat.le_refl _) ((hG.trans HG1.out.1).trans (Gr.below HBW.out)), lt_snoc' _ _ _ hps, ?_, HS.out⟩
            simp
            omega
          refine ⟨hQ, ?_⟩
          rw [HP.out, HPU.out.1.rb.pos]
          show s.size - j < _
          omega
    · have hlen : ¬ ps.length = 0 := by simpa using hne
      rw [(pkV_eq (by omega)).2 h39] at hPk
      have hlt1 := G.lt_of_pk (s := s) (i := i1) (by omega)
      clear hCh
      go_wp2_with (first
        | (go_at_call 129; refine hJ.mono ?_; rintro e w3 ⟨I', B', rfl, hP3, hX3, hb3⟩)
        | (go_at_call 125; refine (step_any (wr.drewN n) b s _ _ vR 1 (hP.rb.drewN n) hs hlt1).mono ?_; rintro e w2 ⟨rfl, hR2, hE2⟩; have hG2 : Gr b wr w2 := (Kept.drewN (Kept.refl _ wr) n).trans hE2.kept; have hP2 := hP.step hG2 hR2 (G.skip_le s _ hlt1); have hL2 := hL.gr hG2 hB.b; have hJ := join_ps w w2 b s _ bm vR I1 T1 B1 E 113 1 (.inl ⟨rfl, rfl⟩) _ ps hP2 hB (Nat.le_trans hszl hG2.size) hL2 hne hps (by omega))
        | (go_at_call 98; refine hPk.mono ?_; rintro e w1 ⟨rfl, n, rfl⟩))
      go_ret
      exact ⟨(hG.trans hG2).trans (Gr.below hb3), I', B', rfl, hP3, hX.trans (Nat.le_refl _) hX3⟩
end Pr
end Go.Proofs.YtpgcidpghmoibaaGreatDoor
