/-
  THE REFERENCE's RULES AS STATES, as memory: a number is added to where rules begin, to from which state on they lie. Nothing of the program is run here. Conditions stand at each fact.
  THE REFERENCE's READER: the walk of quote: what is behind a quote sign, as the form has it, or the first error and its place. Conditions: the source has at most 2000 bytes; there was no error ahead; the table of nodes is well made and has at most four nodes a byte.
-/
import Derived.Test.YtpgcidpghmoibaaGreatDoorK15
import Derived.Test.YtpgcidpghmoibaaGreatDoorK13
namespace Go.Proofs.YtpgcidpghmoibaaGreatDoor
namespace Rf
open Go.RowKit
open G (PNode)
theorem SaAt.growI {w X w2 : World} {b : Nat} {T : List PNode} {Q : List Nat} {L : List PState} {B F B' F' : List Nat} {cs cs' : Array Value} {vN vR vS vB vF u u' vB' vF' : Value} {V : List (Value × Value)} {W : List Value} (h : SaAt w b T Q L B F cs vN vR vS vB vF V W) (o : Nat)
    (hX : Kept (fun _ => True) w X) (hg : X.grownBy w2 u.ownBlock) (hat : Lies w u u') (hcs : cs' = cs.setIfInBounds o u') (h5 : cs'[5]? = some vN) (h7 : cs'[7]? = some vR) (h8 : cs'[8]? = some vS) (h9 : cs'[9]? = some vB') (h10 : cs'[10]? = some vF')
    (hub : u.ownBlock ≠ some b) (huS : Apart u vS) (huI : ∀ k, ImmS vN vR V W k → u.ownBlock ≠ some k)
    (hB : (w2.setCell ⟨b, o, none⟩ u').ownsRow 0 3 1 vB' B'.length (ints B')) (hF : (w2.setCell ⟨b, o, none⟩ u').ownsRow 0 3 1 vF' F'.length (ints F'))
    (hBl : vB' = vB ∨ vB' = u' ∧ vB = u) (hFl : vF' = vF ∨ vF' = u' ∧ vF = u) (hBF : Apart vB' vF') :
    SaAt (w2.setCell ⟨b, o, none⟩ u') b T Q L B' F' cs' vN vR vS vB' vF' V W := by
  have hb := lt_of_block h.ro.blk
  have h2 : ∀ k, k < w.heap.size → u.ownBlock ≠ some k → w2.heap[k]? = w.heap[k]? := fun k hk hn => (hg.block k (Nat.lt_of_lt_of_le hk hX.size) (fun e => hn e.symm)).trans (hX.block k hk trivial)
  have h3 : ∀ k, k < w.heap.size → u.ownBlock ≠ some k → k ≠ b → (w2.setCell ⟨b, o, none⟩ u').heap[k]? = w.heap[k]? := fun k hk hn hne => (blk_ne u' hne).trans (h2 k hk hn)
  have new : ∀ k, k < w.heap.size → u.ownBlock ≠ some k → u'.ownBlock ≠ some k := by
    intro k hk hn e
    rcases hat k e with e2 | e2
    · exact hn e2
    · omega
  have oldB : ∀ k, k < w.heap.size → vB.ownBlock ≠ some k → vB'.ownBlock ≠ some k := by
    intro k hk hn
    rcases hBl with rfl | ⟨rfl, rfl⟩
    · exact hn
    · exact new k hk hn
  have oldF : ∀ k, k < w.heap.size → vF.ownBlock ≠ some k → vF'.ownBlock ≠ some k := by
    intro k hk hn
    rcases hFl with rfl | ⟨rfl, rfl⟩
    · exact hn
    · exact new k hk hn
  have him : ∀ k, ImmS vN vR V W k → (w2.setCell ⟨b, o, none⟩ u').heap[k]? = w.heap[k]? := fun k hk => h3 k (h.lt k (.inr (.inr (.inr (.inr hk))))) (huI k hk) (h.imm k hk).1
  refine ⟨?_, h8, h9, h10, h.len, ?_, hB, hF, ?_, h.nbS, oldB b hb h.nbB, oldF b hb h.nbF, ?_, ?_, hBF, ?_⟩
  · have e : w2.heap[b]? = _ := (h2 b hb hub).trans h.ro.blk
    exact ro_same h.ro (by rw [blk_set e, hcs]) h5 h7 (fun k e => him k (by
      rcases e with e | e | e
      · exact .inl e
      · exact .inr (.inl e)
      · exact .inr (.inr (.inl e))))
  · exact own_same h.oS (fun k e => h3 k (h.oS.lt k e).2 (fun e2 => huS k e2 e) (fun e2 => h.nbS (e2 ▸ e)))
  · intro k x v hx hv
    exact own_same (h.oW k x v hx hv) (fun j e => him j (.inr (.inr (.inr ⟨v, List.mem_of_getElem? hv, e⟩))))
  · intro k e1 e2
    exact oldB k (h.oS.lt k e1).2 (fun e3 => h.apSB k e1 e3) e2
  · intro k e1 e2
    exact oldF k (h.oS.lt k e1).2 (fun e3 => h.apSF k e1 e3) e2
  · intro k e
    obtain ⟨i1, i2, i3, i4⟩ := h.imm k e
    have hk := h.lt k (.inr (.inr (.inr (.inr e))))
    exact ⟨i1, i2, oldB k hk i3, oldF k hk i4⟩
theorem addB_fin {w X w2 : World} {b : Nat} {S M : Nat → Prop} {T : List PNode} {Q : List Nat} {L : List PState} {B F : List Nat} {cs : Array Value} {vN vR vS vB vF : Value} {V : List (Value × Value)} {W : List Value} {g cap : Nat} (n : Nat) (A : SaAt w b T Q L B F cs vN vR vS vB vF V W) (hcs : cs.size = 11)
    (hf : ∀ k, FootS b vN vR vS vB vF V W k → S k) (hS : ∀ k, S k → k < w.heap.size) (hM : ∀ k, MutS b vS vB vF k → M k) (hMS : ∀ k, M k → S k) (hIM : ∀ k, ImmS vN vR V W k → ¬ M k)
    (hX : Kept (fun _ => True) w X) (hg : X.grownBy w2 vB.ownBlock) (hown : w2.ownsRow 0 3 1 (.slice (some ⟨g, 0, none⟩) (B.length + 1) cap) (B.length + 1) (ints B ++ [.int .i64 (n : Int)])) (hat : vB.ownBlock = some g ∨ w.heap.size ≤ g) (hlt : g < w2.heap.size) :
    ∃ S' M', Sa (w2.setCell ⟨b, 9, none⟩ (.slice (some ⟨g, 0, none⟩) (B.length + 1) cap)) b S' M' T Q L (B ++ [n]) F ∧ Evo w M (w2.setCell ⟨b, 9, none⟩ (.slice (some ⟨g, 0, none⟩) (B.length + 1) cap)) M' ∧ ∀ j, S' j → S j ∨ w.heap.size ≤ j := by
  have hb := lt_of_block A.ro.blk
  have hsz : w.heap.size ≤ w2.heap.size := Nat.le_trans hX.size hg.size
  have hli : Lies w vB (.slice (some ⟨g, 0, none⟩) (B.length + 1) cap) := by
    intro k e
    have e2 : g = k := by simpa [Value.ownBlock] using e
    subst e2
    exact hat
  have hgb : g ≠ b := by
    rintro rfl
    rcases hat with h | h
    · exact A.nbB h
    · omega
  have hne : ∀ k, k < w.heap.size → vB.ownBlock ≠ some k → k ≠ b → (w2.setCell ⟨b, 9, none⟩ (.slice (some ⟨g, 0, none⟩) (B.length + 1) cap)).heap[k]? = w.heap[k]? := fun k hk hn hb2 => (blk_ne _ hb2).trans ((hg.block k (Nat.lt_of_lt_of_le hk hX.size) (fun e => hn e.symm)).trans (hX.block k hk trivial))
  have hgrow : World.ownsRow (w2.setCell ⟨b, 9, none⟩ (.slice (some ⟨g, 0, none⟩) (B.length + 1) cap)) 0 3 1 (.slice (some ⟨g, 0, none⟩) (B.length + 1) cap) (B ++ [n]).length (ints (B ++ [n])) := by
    rw [ints_snoc, List.length_append]
    exact own_same hown (fun k e => blk_ne _ (slice_ne e hgb))
  have hold := own_same A.oF (fun k e => hne k (A.oF.lt k e).2 (fun e2 => A.apBF k e2 e) (fun e2 => A.nbF (e2 ▸ e)))
  have hgI : ∀ k, ImmS vN vR V W k → vB.ownBlock ≠ some k := fun k hk => (A.imm k hk).2.2.1
  have hap : Apart (.slice (some ⟨g, 0, none⟩) (B.length + 1) cap) vF := by
    intro k e1 e2
    have e3 : g = k := by simpa [Value.ownBlock] using e1
    subst e3
    rcases hat with h | h
    · exact A.apBF _ h e2
    · have := (A.oF.lt _ e2).2; omega
  have A2 := A.growI (B' := B ++ [n]) (F' := F) (vB' := .slice (some ⟨g, 0, none⟩) (B.length + 1) cap) (vF' := vF) 9 hX hg hli rfl (by simpa using A.ro.c5) (by simpa using A.ro.c7) (by simpa using A.c8) (by simp [hcs]) (by simpa using A.c10) A.nbB A.apSB.symm hgI hgrow hold (.inr ⟨rfl, rfl⟩) (.inl rfl) hap
  have hg2 : M g ∨ (w.heap.size ≤ g ∧ g < w2.heap.size) := by
    rcases hat with h | h
    · exact .inl (hM g (.inr (.inr (.inl h))))
    · exact .inr ⟨h, hlt⟩
  have hgk : ∀ k, (Value.slice (some ⟨g, 0, none⟩) (B.length + 1) cap).ownBlock = some k → M k ∨ (w.heap.size ≤ k ∧ k < w2.heap.size) := by
    intro k e
    have e2 : g = k := by simpa [Value.ownBlock] using e
    exact e2 ▸ hg2
  refine ⟨fun j => S j ∨ (w.heap.size ≤ j ∧ j < w2.heap.size), fun j => M j ∨ (w.heap.size ≤ j ∧ j < w2.heap.size), ⟨_, _, _, _, _, _, _, _, A2, by simpa using hcs, ?_, ?_, ?_, fun k hk => hk.imp (hMS k) id, ?_⟩, ⟨?_, fun j hj => hj.imp id (fun h => h.1)⟩, fun j hj => hj.imp id (fun h => h.1)⟩
  · rintro k (e | e | e | e | e)
    · exact .inl (hf k (.inl e))
    · exact .inl (hf k (.inr (.inl e)))
    · exact (hgk k e).imp (hMS k) id
    · exact .inl (hf k (.inr (.inr (.inr (.inl e)))))
    · exact .inl (hf k (.inr (.inr (.inr (.inr e)))))
  · have e : (w2.setCell ⟨b, 9, none⟩ (.slice (some ⟨g, 0, none⟩) (B.length + 1) cap)).heap.size = w2.heap.size := by simp [World.setCell]
    rw [e]
    rintro k (h | h)
    · have := hS k h; omega
    · exact h.2
  · rintro k (e | e | e | e)
    · exact .inl (hM k (.inl e))
    · exact .inl (hM k (.inr (.inl e)))
    · exact hgk k e
    · exact .inl (hM k (.inr (.inr (.inr e))))
  · rintro k e (h | h)
    · exact hIM k e h
    · have := hS k (hf k (.inr (.inr (.inr (.inr e))))); omega
  · exact Kept.setCell ((hX.mono (fun _ _ _ => trivial)).grown hg (fun k e _ hn => hn (hM k (.inr (.inr (.inl e)))))) (fun hn => hn (hM b (.inl rfl))) _
theorem addF_fin {w X w2 : World} {b : Nat} {S M : Nat → Prop} {T : List PNode} {Q : List Nat} {L : List PState} {B F : List Nat} {cs : Array Value} {vN vR vS vB vF : Value} {V : List (Value × Value)} {W : List Value} {g cap : Nat} (n : Nat) (A : SaAt w b T Q L B F cs vN vR vS vB vF V W) (hcs : cs.size = 11)
    (hf : ∀ k, FootS b vN vR vS vB vF V W k → S k) (hS : ∀ k, S k → k < w.heap.size) (hM : ∀ k, MutS b vS vB vF k → M k) (hMS : ∀ k, M k → S k) (hIM : ∀ k, ImmS vN vR V W k → ¬ M k)
    (hX : Kept (fun _ => True) w X) (hg : X.grownBy w2 vF.ownBlock) (hown : w2.ownsRow 0 3 1 (.slice (some ⟨g, 0, none⟩) (F.length + 1) cap) (F.length + 1) (ints F ++ [.int .i64 (n : Int)])) (hat : vF.ownBlock = some g ∨ w.heap.size ≤ g) (hlt : g < w2.heap.size) :
    ∃ S' M', Sa (w2.setCell ⟨b, 10, none⟩ (.slice (some ⟨g, 0, none⟩) (F.length + 1) cap)) b S' M' T Q L B (F ++ [n]) ∧ Evo w M (w2.setCell ⟨b, 10, none⟩ (.slice (some ⟨g, 0, none⟩) (F.length + 1) cap)) M' ∧ ∀ j, S' j → S j ∨ w.heap.size ≤ j := by
  have hb := lt_of_block A.ro.blk
  have hsz : w.heap.size ≤ w2.heap.size := Nat.le_trans hX.size hg.size
  have hli : Lies w vF (.slice (some ⟨g, 0, none⟩) (F.length + 1) cap) := by
    intro k e
    have e2 : g = k := by simpa [Value.ownBlock] using e
    subst e2
    exact hat
  have hgb : g ≠ b := by
    rintro rfl
    rcases hat with h | h
    · exact A.nbF h
    · omega
  have hne : ∀ k, k < w.heap.size → vF.ownBlock ≠ some k → k ≠ b → (w2.setCell ⟨b, 10, none⟩ (.slice (some ⟨g, 0, none⟩) (F.length + 1) cap)).heap[k]? = w.heap[k]? := fun k hk hn hb2 => (blk_ne _ hb2).trans ((hg.block k (Nat.lt_of_lt_of_le hk hX.size) (fun e => hn e.symm)).trans (hX.block k hk trivial))
  have hgrow : World.ownsRow (w2.setCell ⟨b, 10, none⟩ (.slice (some ⟨g, 0, none⟩) (F.length + 1) cap)) 0 3 1 (.slice (some ⟨g, 0, none⟩) (F.length + 1) cap) (F ++ [n]).length (ints (F ++ [n])) := by
    rw [ints_snoc, List.length_append]
    exact own_same hown (fun k e => blk_ne _ (slice_ne e hgb))
  have hold := own_same A.oB (fun k e => hne k (A.oB.lt k e).2 (fun e2 => A.apBF k e e2) (fun e2 => A.nbB (e2 ▸ e)))
  have hgI : ∀ k, ImmS vN vR V W k → vF.ownBlock ≠ some k := fun k hk => (A.imm k hk).2.2.2
  have hap : Apart vB (.slice (some ⟨g, 0, none⟩) (F.length + 1) cap) := by
    intro k e1 e2
    have e3 : g = k := by simpa [Value.ownBlock] using e2
    subst e3
    rcases hat with h | h
    · exact A.apBF _ e1 h
    · have := (A.oB.lt _ e1).2; omega
  have A2 := A.growI (B' := B) (F' := F ++ [n]) (vB' := vB) (vF' := .slice (some ⟨g, 0, none⟩) (F.length + 1) cap) 10 hX hg hli rfl (by simpa using A.ro.c5) (by simpa using A.ro.c7) (by simpa using A.c8) (by simpa using A.c9) (by simp [hcs]) A.nbF A.apSF.symm hgI hold hgrow (.inl rfl) (.inr ⟨rfl, rfl⟩) hap
  have hg2 : M g ∨ (w.heap.size ≤ g ∧ g < w2.heap.size) := by
    rcases hat with h | h
    · exact .inl (hM g (.inr (.inr (.inr h))))
    · exact .inr ⟨h, hlt⟩
  have hgk : ∀ k, (Value.slice (some ⟨g, 0, none⟩) (F.length + 1) cap).ownBlock = some k → M k ∨ (w.heap.size ≤ k ∧ k < w2.heap.size) := by
    intro k e
    have e2 : g = k := by simpa [Value.ownBlock] using e
    exact e2 ▸ hg2
  refine ⟨fun j => S j ∨ (w.heap.size ≤ j ∧ j < w2.heap.size), fun j => M j ∨ (w.heap.size ≤ j ∧ j < w2.heap.size), ⟨_, _, _, _, _, _, _, _, A2, by simpa using hcs, ?_, ?_, ?_, fun k hk => hk.imp (hMS k) id, ?_⟩, ⟨?_, fun j hj => hj.imp id (fun h => h.1)⟩, fun j hj => hj.imp id (fun h => h.1)⟩
  · rintro k (e | e | e | e | e)
    · exact .inl (hf k (.inl e))
    · exact .inl (hf k (.inr (.inl e)))
    · exact .inl (hf k (.inr (.inr (.inl e))))
    · exact (hgk k e).imp (hMS k) id
    · exact .inl (hf k (.inr (.inr (.inr (.inr e)))))
  · have e : (w2.setCell ⟨b, 10, none⟩ (.slice (some ⟨g, 0, none⟩) (F.length + 1) cap)).heap.size = w2.heap.size := by simp [World.setCell]
    rw [e]
    rintro k (h | h)
    · have := hS k h; omega
    · exact h.2
  · rintro k (e | e | e | e)
    · exact .inl (hM k (.inl e))
    · exact .inl (hM k (.inr (.inl e)))
    · exact .inl (hM k (.inr (.inr (.inl e))))
    · exact hgk k e
  · rintro k e (h | h)
    · exact hIM k e h
    · have := hS k (hf k (.inr (.inr (.inr (.inr e))))); omega
  · exact Kept.setCell ((hX.mono (fun _ _ _ => trivial)).grown hg (fun k e _ hn => hn (hM k (.inr (.inr (.inr e)))))) (fun hn => hn (hM b (.inl rfl))) _
end Rf
end Go.Proofs.YtpgcidpghmoibaaGreatDoor

namespace Go.Proofs.YtpgcidpghmoibaaGreatDoor
namespace Rf
open Go.RowKit
open G (PNode)
theorem st_eq {st1 st : St} (h1 : st1.err = st.err) (h2 : st1.place = st.place) (h3 : st1.deep = st.deep) (h4 : st1.env = st.env) (h5 : st1.rules = st.rules) (i : Nat) (T : List PNode) : ({ st1 with i := i, T := T } : St) = { st with i := i, T := T } := by
  rw [h1, h2, h3, h4, h5]
set_option maxRecDepth 100000 in
set_option maxHeartbeats 2000000 in
theorem quote_any (w : World) (b : Nat) (s : ByteArray) (S : Nat → Prop) (st : St) (hR : Rd w b s S st) (hs : s.size ≤ 2000) (hP : Pre s st) :
    Calls Tryz.prog 150 #[.pointer (some ⟨b, 0, none⟩)] w fun e w' => ∃ v r, e = .returned (.int .i64 v) ∧ G.R s st.env (.quote []) st.deep st.i st.T r ∧ ReadPost w b s S st r 10 v w' := by
  obtain ⟨i0, hi, hz0, hz1, hz2⟩ := info_parts infoInt
  obtain ⟨he0, hile, hTl, hwf, henv⟩ := hP
  go_enter Tryz.func150, Tryz.ntmps150
  go_wp2
  go_loopw [3] (fun pv wr => ∃ (ps : List Nat) (S1 : Nat → Prop) (st1 : St), Rd wr b s S1 st1 ∧ Evo w S wr S1 ∧ Loc wr S1 w.heap.size pv ps ∧ st1.deep = st.deep ∧ st1.env = st.env ∧ st1.rules = st.rules ∧ (∀ p ∈ ps, p < st1.T.length) ∧ ps.length ≤ st1.T.length ∧
      ((st1.err = 0 ∧ st1.place = st.place ∧ st1.i ≤ s.size ∧ st1.T.length ≤ 4 * st1.i ∧ G.WF st1.T ∧ st.T.length ≤ st1.T.length ∧ ∀ r, G.R s st.env (.quote ps) st.deep st1.i st1.T r → G.R s st.env (.quote []) st.deep st.i st.T r) ∨
       (st1.err = 2 ∧ st1.i ≤ 2100 ∧ st1.T.length ≤ 8001 ∧ (∀ x ∈ st1.T, x.size ≤ 101) ∧ st.T.length ≤ st1.T.length ∧ G.R s st.env (.quote []) st.deep st.i st.T (.err 2 st1.place))))
    (fun _ wr => runM b wr)
  case atStart => exact ⟨[], S, st, hR, Evo.refl _ _, Loc.nil _ _ _, rfl, rfl, rfl, by simp, by simp, .inl ⟨he0, rfl, hile, hTl, hwf, Nat.le_refl _, fun r h => h⟩⟩
  case round =>
    obtain ⟨ps, S1, st1, hR1, hE1, hL1, hd1, hev1, hru1, hps1, hpl1, hmode⟩ := hrel
    obtain ⟨c0, c1, c2, c3, c4, fr⟩ := hR1.reads
    obtain ⟨pa, pc, hpe⟩ := own_len hL1.own
    subst hpe
    rcases hmode with ⟨e1, pl1, i1, T1, wf1, Tl1, k1⟩ | ⟨e1, i1, T1, sz1, Tl1, k1⟩
    · rw [e1] at c2
      have hC := char_any wr b s S1 st1 39 39 hR1 hs i1 e1
      have hb0 : w.heap.size ≤ wr.heap.size := hE1.kept.size
      have HR : Hid (runM b wr = 3001 - st1.i) := hR1.runOk e1
      cases hch : G.chr s 39 39 st1.i with
      | none =>
        rw [show G.chr s ((39 : Nat) : Int) ((39 : Nat) : Int) st1.i = none from hch] at hC
        have kerr := k1 _ (G.R.quoteErr hch)
        have HK : Hid _ := And.intro kerr (And.intro hE1 (And.intro hL1 wf1))
        clear k1 kerr
        go_wp2_with (first
          | (go_at_call 158; refine hC.mono ?_; rintro e w1 ⟨hEc, x, m, rfl, hm, hRc⟩)
          | (go_at_call 135
             refine (nodeS_any (w1.alloc (.cells #[.int .i64 (x : Int), .int .i64 (x : Int)] 201)) b s S1 { st1 with i := m, err := 2, place := st1.i } false w1.heap.size (.slice (some ⟨w1.heap.size, 0, none⟩) 1 1) [(x, x)] (hRc.alloc _) (own_new w1 w1.heap.size 201 2 1 _ (Nat.le_refl _) rfl (by unfold maxLen; omega)) (fun i e h2 => by have := hRc.lt i h2; simp [Value.ownBlock] at e; omega) (by show st1.T.length ≤ _; omega) HK.out.2.2.2.le wr S1 (hEc.alloc _) hEc.kept.size).mono ?_
             rintro e w2 ⟨rfl, S2, hR2, E12⟩)
          | (at_builtin
             have hL2 := HK.out.2.2.1.evo E12
             have hsz2 := E12.kept.size
             refine wpList_append_own_at _ rfl (.tmp 21) (.tmp 23) 33 rfl w.heap.size 3 i0 (.int .i64 0) 1 8 Tryz.underlying33 hi hz0 hz1 hz2 rfl (by decide) _ _ _ rfl (hL2.own.alloc _) ⟨w2.heap.size, 0, none⟩ 1 1 [.int .i64 (st1.T.length : Int)] rfl rfl (cell_one_new _ _ _) (fun y hy => by simp at hy; subst hy; rfl) (by unfold maxLen; omega) (by omega) (by simp; omega) ?_
             intro v1 w3 hn1 hg1 _ hat1
             obtain ⟨hL3, hR3, hE3⟩ := hL2.add hR2 st1.T.length ((Kept.refl _ _).alloc _) (by simp) hn1 hg1 hat1
             obtain ⟨va, vc, hve⟩ := hL3.form (ps.length + 1) (by simp)
             subst hve
             have HL3 : Hid _ := And.intro hL3 (hE3 w S (HK.out.2.1.trans E12) (Nat.le_refl _))
             clear hn1 hg1 hat1 hL3 hE3 hL2 E12)
          | (go_at_call 107; refine (see_any w3 b s S2 _ hR3 hs (by show m ≤ _; omega)).mono ?_; rw [seeV_no (by show (2 : Nat) ≠ 0; omega)]; rintro e w4 ⟨rfl, n4, rfl⟩))
        go_roundw
        case rel =>
          exact ⟨ps ++ [st1.T.length], S2, _, hR3.drewN _, HL3.out.2.drewN _, HL3.out.1.evo ((Evo.refl _ _).drewN _), hd1, hev1, hru1, lt_snoc _ _ _ hps1, by simp; omega, .inr ⟨rfl, by show m ≤ _; omega, by simp; omega, mk_le _ _ _ _ _ HK.out.2.2.2.le, by simp; omega, HK.out.1⟩⟩
        case measure =>
          rw [(hR3.drewN _).runNo (by show (2 : Nat) ≠ 0; omega), HR.out]
          omega
      | some xj =>
        obtain ⟨x, j⟩ := xj
        rw [show G.chr s ((39 : Nat) : Int) ((39 : Nat) : Int) st1.i = some (x, j) from hch] at hC
        have hbd := G.chr_bd hch
        have HK : Hid _ := And.intro k1 (And.intro hE1 (And.intro hL1 wf1))
        clear k1
        have hwf2 := wf1.snoc 115 [(x, x)] false [] (by simp) (by simpa using hbd.2.2) (.inl ⟨rfl, rfl⟩)
        by_cases h39 : G.pk s j = 39
        · have hsee : seeV s { st1 with i := j, T := st1.T ++ [G.mk st1.T 115 [(x, x)] false []] } = 39 := (seeV_ok (st := { st1 with i := j, T := st1.T ++ [G.mk st1.T 115 [(x, x)] false []] }) e1).trans h39
          go_wp2_with (first
            | (go_at_call 135; refine hN.mono ?_; rintro e w5 ⟨rfl, S5, hR5, hE5⟩)
            | (go_at_call 158; refine hC.mono ?_; rintro e w1 ⟨hEc, rfl, hRc⟩)
            | (go_at_call 135
               refine (nodeS_any (w1.alloc (.cells #[.int .i64 (x : Int), .int .i64 (x : Int)] 201)) b s S1 { st1 with i := j } false w1.heap.size (.slice (some ⟨w1.heap.size, 0, none⟩) 1 1) [(x, x)] (hRc.alloc _) (own_new w1 w1.heap.size 201 2 1 _ (Nat.le_refl _) rfl (by unfold maxLen; omega)) (fun i e h2 => by have := hRc.lt i h2; simp [Value.ownBlock] at e; omega) (by show st1.T.length ≤ _; omega) HK.out.2.2.2.le wr S1 (hEc.alloc _) hEc.kept.size).mono ?_
               rintro e w2 ⟨rfl, S2, hR2, E12⟩)
            | (at_builtin
               have hL2 := HK.out.2.2.1.evo E12
               have hsz2 := E12.kept.size
               refine wpList_append_own_at _ rfl (.tmp 21) (.tmp 23) 33 rfl w.heap.size 3 i0 (.int .i64 0) 1 8 Tryz.underlying33 hi hz0 hz1 hz2 rfl (by decide) _ _ _ rfl (hL2.own.alloc _) ⟨w2.heap.size, 0, none⟩ 1 1 [.int .i64 (st1.T.length : Int)] rfl rfl (cell_one_new _ _ _) (fun y hy => by simp at hy; subst hy; rfl) (by unfold maxLen; omega) (by omega) (by simp; omega) ?_
               intro v1 w3 hn1 hg1 _ hat1
               obtain ⟨hL3, hR3, hE3⟩ := hL2.add hR2 st1.T.length ((Kept.refl _ _).alloc _) (by simp) hn1 hg1 hat1
               obtain ⟨va, vc, hve⟩ := hL3.form (ps.length + 1) (by simp)
               subst hve
               have HL3 : Hid _ := And.intro hL3 (hE3 w S (HK.out.2.1.trans E12) (Nat.le_refl _))
               clear hn1 hg1 hat1 hL3 hE3 hL2 E12)
            | (go_at_call 107; refine (see_any w3 b s S2 _ hR3 hs (by show j ≤ _; omega)).mono ?_; rw [hsee]; rintro e w4 ⟨rfl, n4, rfl⟩; clear c0 c1 c2 c3 c4 fr; obtain ⟨c0, c1, c2, c3, c4, fr⟩ := hR3.reads; have E34 := ((Evo.refl w3 S2).drewN n4).set hR3.inS.1 (.inl hR3.inS.1) 1 (.int .i64 ((j : Int) + 1)); have hN := nodeP_any _ b s S2 _ 113 w.heap.size _ _ (hR3.drewN n4).inc (HL3.out.1.evo E34) (lt_snoc _ _ _ hps1) (by simp; omega) (by simp; omega) hwf2.le w S (HL3.out.2.trans E34) (Nat.le_refl _)))
          go_ret
          exact ⟨_, _, rfl, HK.out.1 _ (G.R.quoteEnd hch h39), S5, _, hR5, hE5, hd1, hev1, hru1, rfl, st_eq (e1.trans he0.symm) pl1 hd1 hev1 hru1 _ _⟩
        · have hsee : seeV s { st1 with i := j, T := st1.T ++ [G.mk st1.T 115 [(x, x)] false []] } = G.pk s j := seeV_ok (st := { st1 with i := j, T := st1.T ++ [G.mk st1.T 115 [(x, x)] false []] }) e1
          have h39' : (G.pk s j == 39) = false := by simpa using h39
          go_wp2_with (first
            | (go_at_call 158; refine hC.mono ?_; rintro e w1 ⟨hEc, rfl, hRc⟩)
            | (go_at_call 135
               refine (nodeS_any (w1.alloc (.cells #[.int .i64 (x : Int), .int .i64 (x : Int)] 201)) b s S1 { st1 with i := j } false w1.heap.size (.slice (some ⟨w1.heap.size, 0, none⟩) 1 1) [(x, x)] (hRc.alloc _) (own_new w1 w1.heap.size 201 2 1 _ (Nat.le_refl _) rfl (by unfold maxLen; omega)) (fun i e h2 => by have := hRc.lt i h2; simp [Value.ownBlock] at e; omega) (by show st1.T.length ≤ _; omega) HK.out.2.2.2.le wr S1 (hEc.alloc _) hEc.kept.size).mono ?_
               rintro e w2 ⟨rfl, S2, hR2, E12⟩)
            | (at_builtin
               have hL2 := HK.out.2.2.1.evo E12
               have hsz2 := E12.kept.size
               refine wpList_append_own_at _ rfl (.tmp 21) (.tmp 23) 33 rfl w.heap.size 3 i0 (.int .i64 0) 1 8 Tryz.underlying33 hi hz0 hz1 hz2 rfl (by decide) _ _ _ rfl (hL2.own.alloc _) ⟨w2.heap.size, 0, none⟩ 1 1 [.int .i64 (st1.T.length : Int)] rfl rfl (cell_one_new _ _ _) (fun y hy => by simp at hy; subst hy; rfl) (by unfold maxLen; omega) (by omega) (by simp; omega) ?_
               intro v1 w3 hn1 hg1 _ hat1
               obtain ⟨hL3, hR3, hE3⟩ := hL2.add hR2 st1.T.length ((Kept.refl _ _).alloc _) (by simp) hn1 hg1 hat1
               obtain ⟨va, vc, hve⟩ := hL3.form (ps.length + 1) (by simp)
               subst hve
               have HL3 : Hid _ := And.intro hL3 (hE3 w S (HK.out.2.1.trans E12) (Nat.le_refl _))
               clear hn1 hg1 hat1 hL3 hE3 hL2 E12)
            | (go_at_call 107; refine (see_any w3 b s S2 _ hR3 hs (by show j ≤ _; omega)).mono ?_; rw [hsee]; rintro e w4 ⟨rfl, n4, rfl⟩))
          go_roundw
          case rel =>
            exact ⟨ps ++ [st1.T.length], S2, _, hR3.drewN _, HL3.out.2.drewN _, HL3.out.1.evo ((Evo.refl _ _).drewN _), hd1, hev1, hru1, lt_snoc _ _ _ hps1, by simp; omega, .inl ⟨e1, pl1, hbd.2.1, by simp; omega, hwf2, by simp; omega, fun r hr => HK.out.1 r (G.R.quoteMore hch h39 hr)⟩⟩
          case measure =>
            rw [(hR3.drewN _).runOk e1, HR.out]
            show 3001 - j < _
            omega
    · have e1' : ¬ (st1.err : Int) = 0 := by omega
      have hN := nodeP_any wr b s S1 st1 113 w.heap.size (.slice pa ps.length pc) ps hR1 hL1 hps1 (by omega) (by omega) sz1 w S hE1 (Nat.le_refl _)
      go_wp2_with (go_at_call 135; refine hN.mono ?_; rintro e w2 ⟨rfl, S2, hR2, hE2⟩)
      go_ret
      exact ⟨_, _, rfl, k1, S2, _, hR2, hE2, hd1, hev1, hru1, e1, rfl, by omega, by show st1.i ≤ _; omega, by simp; omega, mk_le _ _ _ _ _ sz1, by simp; omega⟩
end Rf
end Go.Proofs.YtpgcidpghmoibaaGreatDoor
