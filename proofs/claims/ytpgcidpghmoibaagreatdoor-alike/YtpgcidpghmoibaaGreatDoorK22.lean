/-
  THE REFERENCE's Compile: it reads the source as the form has it: the first error and its place, or rules that are too large, or the rules; given what all does with rules that were read. Condition: the source has at most 2000 bytes (or more: then nothing is read).
  THE REFERENCE's RULES AS STATES: the walk of all: every rule is made into states. Conditions: the rules were read; they are at most 50 and have at most 100 places.
-/
import Derived.Test.YtpgcidpghmoibaaGreatDoorK05
import Derived.Test.YtpgcidpghmoibaaGreatDoorK21
import Derived.Test.YtpgcidpghmoibaaGreatDoorK16
namespace Go.Proofs.YtpgcidpghmoibaaGreatDoor
namespace Rf
open Go.RowKit
open G (PNode)
def AllAt (b : Nat) (s : ByteArray) (P : World → List PNode → List Nat → Prop) : Prop :=
  ∀ (w : World) (S : Nat → Prop) (st : St), Rd w b s S st → (∀ k, S k → b ≤ k) → G.WF st.T → st.T.length ≤ 8000 → (∀ q ∈ st.rules, q < st.T.length) → st.rules.length ≤ 50 → G.sizeOf st.T st.rules ≤ 100 →
    Calls Tryz.prog 83 #[.pointer (some ⟨b, 0, none⟩)] w fun e w' => e = .returned (.tuple #[]) ∧ P w' st.T st.rules ∧ ∃ S', Evo w S w' S'
def CompPost (w : World) (s : ByteArray) (P : World → List PNode → List Nat → Prop) (e : Ending) (w' : World) : Prop :=
  Below w.heap.size w w' ∧ ∃ r, G.Src s 0 [] [] [] r ∧ match r with
    | .err c p => c ≠ 0 ∧ e = .returned (.tuple #[.pointer (some ⟨w.heap.size, 0, none⟩), .int .i64 (p : Int), .int .i64 (c : Int)])
    | .ok Q T => G.WF T ∧ (∀ q ∈ Q, q < T.length) ∧
      ((50 < Q.length ∨ 100 < G.sizeOf T Q) ∧ e = .returned (.tuple #[.pointer (some ⟨w.heap.size, 0, none⟩), .int .i64 0, .int .i64 6]) ∨
       (Q.length ≤ 50 ∧ G.sizeOf T Q ≤ 100) ∧ P w' T Q ∧ e = .returned (.tuple #[.pointer (some ⟨w.heap.size, 0, none⟩), .int .i64 0, .int .i64 0]))
theorem Evo.below {w w' : World} {S : Nat → Prop} (h : Evo w (fun _ => False) w' S) : Below w.heap.size w w' := ⟨h.kept.os, h.kept.tape, h.kept.output, h.kept.size, fun k hk => h.kept.block k hk (fun h => h)⟩
theorem Rd.start (w : World) (s : ByteArray) : Rd (w.alloc (.cells (rcellsOf s ⟨0, 0, 0, 0, [], [], []⟩ (.slice none 0 0) (.slice none 0 0) (.slice none 0 0)) 36)) w.heap.size s (fun k => k = w.heap.size) ⟨0, 0, 0, 0, [], [], []⟩ := by
  have nn : ∀ k, (Value.slice none 0 0).ownBlock ≠ some k := fun k e => by simp [Value.ownBlock] at e
  refine ⟨.slice none 0 0, .slice none 0 0, .slice none 0 0, [], ⟨heap_alloc_new w _, rfl, World.ownsRow_nil _ _ _ _, World.ownsRow_nil _ _ _ _, World.ownsRow_nil _ _ _ _, fun k x v hx => by simp at hx, nn _, nn _, nn _, fun k e => absurd e (nn k), fun k e => absurd e (nn k), fun k e => absurd e (nn k), fun x hx => by simp at hx⟩, ?_, ?_⟩
  · rintro k (h | h | h | h | ⟨x, hx, _⟩)
    · exact h
    · exact absurd h (nn k)
    · exact absurd h (nn k)
    · exact absurd h (nn k)
    · simp at hx
  · rintro k rfl
    simp
set_option maxRecDepth 100000 in
set_option maxHeartbeats 4000000 in
theorem comp_any (w : World) (s : ByteArray) (P : World → List PNode → List Nat → Prop) (hs : s.size ≤ 2000) (hA : AllAt w.heap.size s P) :
    Calls Tryz.prog 53 #[.string s] w fun e w' => CompPost w s P e w' := by
  have hs' : ¬ (2000 : Int) < (s.size : Int) := by omega
  have hR0 := Rd.start w s
  have hE0 : Evo w (fun _ => False) (w.alloc (.cells (rcellsOf s ⟨0, 0, 0, 0, [], [], []⟩ (.slice none 0 0) (.slice none 0 0) (.slice none 0 0)) 36)) (fun k => k = w.heap.size) := ⟨(Kept.refl _ _).alloc _, fun k e => .inr (by omega)⟩
  have H0 : Hid _ := And.intro hR0 hE0
  clear hR0 hE0
  go_enter Tryz.func53, Tryz.ntmps53
  go_wp2
  go_loopw [] (fun wr => ∃ (S1 : Nat → Prop) (st1 : St), Rd wr w.heap.size s S1 st1 ∧ Evo w (fun _ => False) wr S1 ∧
      ((st1.err = 0 ∧ st1.place = 0 ∧ st1.deep = 0 ∧ st1.i ≤ s.size ∧ st1.T.length ≤ 4 * st1.i ∧ G.WF st1.T ∧ (∀ x ∈ st1.env, x.2 < st1.T.length) ∧ st1.env.length ≤ st1.i ∧ st1.rules.length ≤ st1.i ∧ (∀ q ∈ st1.rules, q < st1.T.length) ∧ ∀ r, G.Src s st1.i st1.env st1.rules st1.T r → G.Src s 0 [] [] [] r) ∨
       (st1.err ≠ 0 ∧ st1.i ≤ 100000 ∧ G.Src s 0 [] [] [] (.err st1.err st1.place))))
    (fun wr => runM w.heap.size wr)
  case atStart => exact ⟨_, _, H0.out.1, H0.out.2, .inl ⟨rfl, rfl, rfl, Nat.zero_le _, Nat.le_refl _, fun k x hx => by simp at hx, by simp, by simp, by simp, by simp, fun r h => h⟩⟩
  case round =>
    obtain ⟨S1, st1, hR1, hE1, hmode⟩ := hrel
    rcases hmode with ⟨e1, pl1, d1, i1, T1, wf1, en1, el1, rl1, q1, k1⟩ | ⟨e1, i1, k1⟩
    · have hkl := G.skip_le s st1.i i1
      have hkg := G.skip_ge s st1.i
      have HR : Hid (runM w.heap.size wr = 3001 - st1.i) := hR1.runOk e1
      by_cases hk : G.skip s st1.i < s.size
      · have hmo : moreB s ({ st1 with i := G.skip s st1.i } : St) = true := by simp [moreB, e1, hk]
        have hP1 : Pre s ({ st1 with i := G.skip s st1.i } : St) := ⟨e1, hkl, by show st1.T.length ≤ 4 * G.skip s st1.i; omega, wf1, en1⟩
        have hfn := fun r (hr : G.Stm s st1.env (G.skip s st1.i) st1.T r) => hr.fine hkl wf1 en1 (by omega)
        go_wp2_with (first
          | (go_at_call 80; refine (skip_any wr _ s S1 st1 hR1 hs i1 e1).mono ?_; rintro e w1 ⟨rfl, hR2, hE2⟩)
          | (go_at_call 81; refine (more_any w1 _ s S1 _ hR2 hs (by show G.skip s st1.i ≤ _; omega)).mono ?_; rw [hmo]; rintro e w2 ⟨rfl, n2, rfl⟩; have hN := stm_any (w1.drewN n2) w.heap.size s S1 ({ st1 with i := G.skip s st1.i } : St) (hR2.drewN n2) hs hP1 (by show st1.env.length ≤ _; omega) (by show st1.rules.length ≤ _; omega) d1 (G.skip_skip s st1.i))
          | (go_at_call 82
             refine hN.mono ?_
             rintro e w3 ⟨rfl, r, S3, st3, hstm, hR3, hE3, hm⟩
             have hE4 := ((hE1.trans hE2).drewN n2).trans hE3
             have hf := hfn r hstm
             have HX : Hid _ := And.intro hstm (And.intro hR3 (And.intro hE4 hm))
             clear hstm hR3 hE4 hm hE3))
        obtain ⟨hstm, hR3, hE4, hm⟩ := HX.out
        cases r with
        | err c p =>
          obtain ⟨z1, z2, z3, z4⟩ := hm
          refine ⟨⟨S3, st3, hR3, hE4, .inr ⟨by omega, z4, ?_⟩⟩, ?_⟩
          · rw [z1, z3]
            exact k1 _ (G.Src.err hk hstm)
          · rw [hR3.runNo (by omega), HR.out]
            omega
        | rule n j T' =>
          obtain ⟨f1, f2, f3, f4, f5, f6⟩ := hf
          subst hm
          refine ⟨⟨S3, _, hR3, hE4, .inl ⟨e1, pl1, d1, f2, f6, f4, fun x hx => by have := en1 x hx; show x.2 < T'.length; omega, by show st1.env.length ≤ j; omega, by show (st1.rules ++ [n]).length ≤ j; simp; omega, ?_, fun r hr => k1 r (G.Src.rule hk hstm hr)⟩⟩, ?_⟩
          · intro q hq
            show q < T'.length
            rcases List.mem_append.1 hq with hq | hq
            · have := q1 q hq; omega
            · simp only [List.mem_singleton] at hq; omega
          · rw [hR3.runOk e1, HR.out]
            show 3001 - j < _
            omega
        | defn nm n j T' =>
          obtain ⟨f1, f2, f3, f4, f5, f6⟩ := hf
          subst hm
          refine ⟨⟨S3, _, hR3, hE4, .inl ⟨e1, pl1, d1, f2, f6, f4, ?_, by show (st1.env ++ [(nm, n)]).length ≤ j; simp; omega, by show st1.rules.length ≤ j; omega, fun q hq => by have := q1 q hq; show q < T'.length; omega, fun r hr => k1 r (G.Src.defn hk hstm hr)⟩⟩, ?_⟩
          · intro x hx
            show x.2 < T'.length
            rcases List.mem_append.1 hx with hx | hx
            · have := en1 x hx; omega
            · simp only [List.mem_singleton] at hx; subst hx; exact f3
          · rw [hR3.runOk e1, HR.out]
            show 3001 - j < _
            omega
      · have hmo : moreB s ({ st1 with i := G.skip s st1.i } : St) = false := by simp [moreB, e1]; omega
        have hsr := k1 _ (G.Src.done hk)
        have HSR : Hid _ := hsr
        clear hsr k1
        by_cases hbig : 50 < st1.rules.length ∨ 100 < G.sizeOf st1.T st1.rules
        · have hB1 : 50 < st1.rules.length ∨ (¬ 50 < st1.rules.length ∧ 100 < G.sizeOf st1.T st1.rules) := by omega
          have HB : Hid _ := And.intro hbig (And.intro wf1 q1)
          rcases hB1 with hb1 | ⟨hb1, hb2⟩
          all_goals
            go_wp2_with (first
              | (go_at_call 80
                 refine (skip_any wr _ s S1 st1 hR1 hs i1 e1).mono ?_
                 rintro e w1 ⟨rfl, hR2, hE2⟩
                 obtain ⟨c0, c1, c2, c3, c4, fr⟩ := hR2.reads
                 have c2' : w1.cell? ⟨w.heap.size, 2, none⟩ = some (.int .i64 0) := c2.trans (by show some (Value.int .i64 ((st1.err : Nat) : Int)) = _; rw [e1]; rfl)
                 clear c2
                 obtain ⟨vN, vM, vR, V, A, hf, hl⟩ := id hR2
                 obtain ⟨ra, rc, hre⟩ := own_len A.oR
                 subst hre
                 have c7 := cell_blk A.blk 7 (.slice ra st1.rules.length rc) rfl)
              | (go_at_call 81
                 refine (more_any w1 _ s S1 _ hR2 hs (by show G.skip s st1.i ≤ _; omega)).mono ?_
                 rw [hmo]
                 rintro e w2 ⟨rfl, n2, rfl⟩
                 obtain ⟨vN2, vM2, vR2, V2, A2, _, _⟩ := hR2.drewN n2
                 have hN := places_any _ _ _ _ _ _ _ _ A2.ro q1 wf1.le (by show st1.rules.length ≤ _; omega) (by show st1.T.length ≤ _; omega))
              | (go_at_call 18; refine hN.mono ?_; rintro e w3 ⟨rfl, n3, rfl⟩))
            go_ret3
            exact ⟨((hE1.trans hE2).drewN _).below, _, HSR.out, HB.out.2.1, HB.out.2.2, .inl ⟨HB.out.1, rfl⟩⟩
        · have hb1 : ¬ 50 < st1.rules.length := by omega
          have hb2 : ¬ 100 < G.sizeOf st1.T st1.rules := by omega
          go_wp2_with (first
            | (go_at_call 80
               refine (skip_any wr _ s S1 st1 hR1 hs i1 e1).mono ?_
               rintro e w1 ⟨rfl, hR2, hE2⟩
               obtain ⟨c0, c1, c2, c3, c4, fr⟩ := hR2.reads
               have c2' : w1.cell? ⟨w.heap.size, 2, none⟩ = some (.int .i64 0) := c2.trans (by show some (Value.int .i64 ((st1.err : Nat) : Int)) = _; rw [e1]; rfl)
               clear c2
               obtain ⟨vN, vM, vR, V, A, hf, hl⟩ := id hR2
               obtain ⟨ra, rc, hre⟩ := own_len A.oR
               subst hre
               have c7 := cell_blk A.blk 7 (.slice ra st1.rules.length rc) rfl)
            | (go_at_call 81
               refine (more_any w1 _ s S1 _ hR2 hs (by show G.skip s st1.i ≤ _; omega)).mono ?_
               rw [hmo]
               rintro e w2 ⟨rfl, n2, rfl⟩
               obtain ⟨vN2, vM2, vR2, V2, A2, _, _⟩ := hR2.drewN n2
               have hN := places_any _ _ _ _ _ _ _ _ A2.ro q1 wf1.le (by show st1.rules.length ≤ _; omega) (by show st1.T.length ≤ _; omega))
            | (go_at_call 18; refine hN.mono ?_; rintro e w3 ⟨rfl, n3, rfl⟩)
            | (go_at_call 83; refine (hA _ S1 _ (hR2.drewN (n2 + n3)) (fun k hk => (hE1.new k hk).elim False.elim id) wf1 (by show st1.T.length ≤ _; omega) q1 (by show st1.rules.length ≤ _; omega) (by show G.sizeOf st1.T st1.rules ≤ _; omega)).mono ?_; rintro e w4 ⟨rfl, hPw, S4, hE4⟩))
          go_ret3
          exact ⟨(((hE1.trans hE2).drewN _).trans hE4).below, _, HSR.out, wf1, q1, .inr ⟨⟨by omega, by omega⟩, hPw, rfl⟩⟩
    · have hmo : moreB s st1 = false := by simp [moreB, e1]
      have hnb : ((st1.err : Int) != 0) = true := by simp; omega
      go_wp2_with (first
        | (go_at_call 80; refine (skip_no wr _ s S1 st1 hR1 hs i1 e1).mono ?_; rintro e w1 ⟨rfl, hR2, hE2⟩; obtain ⟨c0, c1, c2, c3, c4, fr⟩ := hR2.reads)
        | (go_at_call 81; refine (more_any w1 _ s S1 st1 hR2 hs i1).mono ?_; rw [hmo]; rintro e w2 ⟨rfl, n2, rfl⟩))
      go_quiet (fail)
      go_wp2
      go_ret3
      exact ⟨(((hE1.trans hE2).drewN _).drewN _).below, _, k1, e1, rfl⟩
end Rf
end Go.Proofs.YtpgcidpghmoibaaGreatDoor

namespace Go.Proofs.YtpgcidpghmoibaaGreatDoor
namespace Rf
open Go.RowKit
open G (PNode)
inductive AllR (T : List PNode) : List Nat → List PState → List Nat → List Nat → List PState → List Nat → List Nat → Prop
  | nil {L B F} : AllR T [] L B F L B (F ++ [L.length])
  | cons {q qs L B F r L1 L' B' F'} : Md T (.node q) 0 L (.one r) L1 → AllR T qs L1 (B ++ [r]) (F ++ [L.length]) L' B' F' → AllR T (q :: qs) L B F L' B' F'
def Made (b : Nat) (w : World) (T : List PNode) (Q : List Nat) : Prop :=
  ∃ S M L B F, Sa w b S M T Q L B F ∧ AllR T Q [⟨-1, []⟩] [] [] L B F ∧ ∀ k, S k → b ≤ k
theorem Rd.sa {w : World} {b : Nat} {s : ByteArray} {S : Nat → Prop} {st : St} (h : Rd w b s S st) : Sa w b S (fun k => k = b) st.T st.rules [] [] [] := by
  obtain ⟨vN, vM, vR, V, A, hf, hl⟩ := h
  have nn : ∀ k, (Value.slice none 0 0).ownBlock ≠ some k := fun k e => by simp [Value.ownBlock] at e
  have him : ∀ k, ImmS vN vR V [] k → k ≠ b := by
    rintro k (e | e | ⟨x, hx, e⟩ | ⟨v, hv, e⟩) e2
    · exact A.nbN (e2 ▸ e)
    · exact A.nbR (e2 ▸ e)
    · exact (A.imm x hx k e).1 e2
    · simp at hv
  refine ⟨_, vN, vR, .slice none 0 0, .slice none 0 0, .slice none 0 0, V, [], ⟨A.ro, rfl, rfl, rfl, rfl, World.ownsRow_nil _ _ _ _, World.ownsRow_nil _ _ _ _, World.ownsRow_nil _ _ _ _, fun k x v hx => by simp at hx, nn _, nn _, nn _, fun k e => absurd e (nn k), fun k e => absurd e (nn k), fun k e => absurd e (nn k), fun k hk => ⟨him k hk, nn k, nn k, nn k⟩⟩, rfl, ?_, hl, ?_, fun k hk => hk ▸ hf b (.inl rfl), fun k hk => him k hk⟩
  · rintro k (e | e | e | e | e | e | ⟨x, hx, e⟩ | ⟨v, hv, e⟩)
    · exact hf k (.inl e)
    · exact absurd e (nn k)
    · exact absurd e (nn k)
    · exact absurd e (nn k)
    · exact hf k (.inr (.inl e))
    · exact hf k (.inr (.inr (.inr (.inl e))))
    · exact hf k (.inr (.inr (.inr (.inr ⟨x, hx, e⟩))))
    · simp at hv
  · rintro k (e | e | e | e)
    · exact e
    · exact absurd e (nn k)
    · exact absurd e (nn k)
    · exact absurd e (nn k)
set_option maxRecDepth 100000 in
set_option maxHeartbeats 2000000 in
theorem all_any (b : Nat) (s : ByteArray) : AllAt b s (Made b) := by
  intro w S st hR hLo hT htl hQ hql hsz
  have hbw := hR.inS.2
  obtain ⟨i0, hi, hz0, hz1, hz2⟩ := info_parts infoInt
  have hS := hR.sa
  have hpls := G.sizeOf_pls hT st.rules hQ hsz
  generalize st.T = T at *
  generalize st.rules = Q at *
  have hSt := state_any w b S (fun k => k = b) T Q [] [] [] hS ⟨-1, []⟩ none 0 (World.ownsRow_nil _ _ _ _) (fun j e => none_own j _ e) (by simp)
  go_enter Tryz.func83, Tryz.ntmps83
  go_wp2_with (go_at_call 113; refine hSt.mono ?_; rintro e w1 ⟨rfl, S1, M1, hS1, hE1, hn1⟩)
  have hn1' : ∀ j, S1 j → S j ∨ w.heap.size ≤ j := fun j hj => by
    rcases hn1 j hj with h | h | h
    · exact .inl h
    · exact none_own j _ h
    · exact .inr h
  go_loopw [2] (fun i wr => ∃ (j : Nat) (L : List PState) (B F : List Nat) (Sr Mr : Nat → Prop), j ≤ Q.length ∧ i = .int .i64 (j : Int) ∧ Sa wr b Sr Mr T Q L B F ∧ Evo w (fun k => k = b) wr Mr ∧ (∀ k, Sr k → S k ∨ w.heap.size ≤ k) ∧ 0 < L.length ∧ L.length + 4 * G.pls T (Q.drop j) ≤ 1000 ∧ B.length = j ∧ F.length = j ∧ ∀ L' B' F', AllR T (Q.drop j) L B F L' B' F' → AllR T Q [⟨-1, []⟩] [] [] L' B' F') (fun i _ => Q.length - (intOf i).toNat)
  case atStart => exact ⟨0, [⟨-1, []⟩], [], [], S1, M1, Nat.zero_le _, rfl, hS1, hE1, hn1', by simp, by rw [List.drop_zero, hpls]; simp; omega, rfl, rfl, fun L' B' F' h => by rw [List.drop_zero] at h; exact h⟩
  case round =>
    obtain ⟨j, L, B, F, Sr, Mr, hj, rfl, hSr, hEr, hnr, hL0, hLb, hBl, hFl, k1⟩ := hrel
    have HK : Hid _ := And.intro k1 (And.intro hBl hFl)
    have hFb : F.length ≤ 50 := by omega
    have hBb : B.length ≤ 50 := by omega
    clear k1 hBl hFl
    obtain ⟨cs, vN, vR, vS, vB, vF, V, W, A, hcs, hf, hlt, hM, hMS, hIM⟩ := id hSr
    obtain ⟨fa, fc, hfe⟩ := own_len A.oF
    obtain ⟨sa, sc, hse⟩ := own_len A.oS
    obtain ⟨qa, qc, hqe⟩ := own_len A.ro.oR
    subst hfe hse hqe
    have c7 := cell_blk A.ro.blk 7 _ A.ro.c7
    have c8 := cell_blk A.ro.blk 8 _ A.c8
    have c10 := cell_blk A.ro.blk 10 _ A.c10
    have oF := A.oF
    have hbl := lt_of_block A.ro.blk
    have HA : Hid _ := And.intro A (And.intro hcs (And.intro hf (And.intro hlt (And.intro hM (And.intro hMS hIM)))))
    clear A hcs hf hlt hM hMS hIM
    by_cases hlj : j < Q.length
    · have hqj : Q[j]? = some (Q[j]'hlj) := List.getElem?_eq_getElem _
      generalize Q[j]'_ = q at hqj
      have hqT := hQ q (List.mem_of_getElem? hqj)
      obtain ⟨hdr, hpt⟩ := pls_drop T Q j q hqj
      have HDR : Hid _ := hdr
      clear hdr
      go_wp2
      go_region_law
        ((refine step_append_lies _ (by rfl) _ _ _ (by rfl) 0 3 i0 _ 1 8 Tryz.underlying33 hi hz0 hz1 hz2 rfl (by omega) (.slice fa F.length fc) F.length (ints F) (by rfl) ((oF.alloc _).drew)
            ⟨wr.heap.size, 0, none⟩ 1 1 [.int .i64 (L.length : Int)] (by rfl) (by rfl) (World.news_of_block (cs := #[.int .i64 (L.length : Int)]) (t := 3) (fr := (0, 0)) (heap_alloc_new wr _)) (by simp [Value.oneCell'])
            (by omega) (by unfold maxLen; omega) (by omega) (by simp) (wr.heap.size + 1) (by simp) ?_; intro g2 cap2 w4 hn2 hg2 hat2 hlt2; have hb4 : w4.heap[b]? = _ := (hg2.block b (by simp; omega) (fun e => HA.out.1.nbF e.symm)).trans ((Below.heap_alloc _ _ _ hbl).trans HA.out.1.ro.blk); have fb2' := free_blk hb4 10; have cb2' := cell_blk hb4 10 _ HA.out.1.c10; clear hb4))
      all_goals
        obtain ⟨S5, M5, hS5, hE5, hn5⟩ := addF_fin L.length HA.out.1 HA.out.2.1 HA.out.2.2.1 HA.out.2.2.2.1 HA.out.2.2.2.2.1 HA.out.2.2.2.2.2.1 HA.out.2.2.2.2.2.2 (((Kept.refl _ _).alloc _).drew) hg2 hn2 (hat2.imp id (fun h => by omega)) hlt2
        clear cb2' fb2' hn2 hg2 hat2 hlt2 HA oF c7 c8 c10 hbl
        generalize w4.setCell ⟨b, 10, none⟩ (.slice (some ⟨g2, 0, none⟩) (F.length + 1) cap2) = w5 at hS5 hE5 ⊢
        obtain ⟨cs5, vN5, vR5, vS5, vB5, vF5, V5, W5, A5, _, _, _, _, _, _⟩ := id hS5
        obtain ⟨gq, capq, hvq, _, _⟩ := A5.ro.oR.form (by omega)
        subst hvq
        have c7 := cell_blk A5.ro.blk 7 _ A5.ro.c7
        have cq : w5.cell? ⟨gq, j, none⟩ = some (.int .i64 (q : Int)) := own_cell' A5.ro.oR j (by simp [ints, hqj])
        have hN := made_any b T Q hT (by omega) q hqT w5 S5 M5 L B (F ++ [L.length]) 0 hS5 hL0 (by omega)
        clear A5
        go_wp2_with (first
          | (go_at_call 114
             refine hN.mono ?_
             rintro e w6 ⟨r6, L6, S6, M6, rfl, hmd, hS6, hE6, hn6⟩
             obtain ⟨cs6, vN6, vR6, vS6, vB6, vF6, V6, W6, A6, hcs6, hf6, hlt6, hM6, hMS6, hIM6⟩ := id hS6
             obtain ⟨ba, bc, hbe⟩ := own_len A6.oB
             subst hbe
             have c9 := cell_blk A6.ro.blk 9 _ A6.c9
             have hbl6 := lt_of_block A6.ro.blk)
          | (at_builtin
             refine wpList_append_lies _ rfl (.tmp 43) (.tmp 45) 33 rfl 0 3 i0 (.int .i64 0) 1 8 Tryz.underlying33 hi hz0 hz1 hz2 rfl (by decide) (.slice ba B.length bc) B.length (ints B) rfl (A6.oB.alloc _) ⟨w6.heap.size, 0, none⟩ 1 1 [.int .i64 (r6 : Int)] rfl rfl (cell_one_new _ _ _) (fun y hy => by simp at hy; subst hy; rfl) (by decide) (by unfold maxLen; omega) (by omega) (by simp) (w6.heap.size + 1) (by simp) ?_
             intro g9 cap9 w9 hn9 hg9 hat9 hlt9
             have hb9 : w9.heap[b]? = _ := (hg9.block b (by simp; omega) (fun e => A6.nbB e.symm)).trans (blk_alloc _ A6.ro.blk)
             have cb9 := cell_blk hb9 9 _ A6.c9
             have fb9 := free_blk hb9 9
             have hfin := addB_fin r6 A6 hcs6 hf6 hlt6 hM6 hMS6 hIM6 ((Kept.refl _ _).alloc _) hg9 hn9 (hat9.imp id (fun h => by omega)) hlt9
             have HX : Hid _ := And.intro hfin (And.intro hmd (And.intro hE6 hn6))
             clear hfin hb9 hn9 hg9 hat9 hmd hE6 hn6 A6))
        go_roundw
        case rel =>
          obtain ⟨⟨S9, M9, hS9, hE9, hn9⟩, hmd, hE6, hn6⟩ := HX.out
          have hfm := hmd.fine hT (by show q < T.length; omega) hL0
          have hsl := sl_ge T q
          have hb6 : L6.length + (MT.node q).sl T ≤ L.length + 4 * G.pl T q := hfm.2.2.1
          have hz5 := hE5.kept.size
          have hz6 := hE6.kept.size
          have hzr := hEr.kept.size
          refine ⟨j + 1, L6, B ++ [r6], F ++ [L.length], S9, M9, by omega, by go_num, hS9, ((hEr.trans hE5).trans hE6).trans hE9, fun k hk => ?_, by omega, by omega, by simp [HK.out.2.1], by simp [HK.out.2.2], fun L' B' F' h => HK.out.1 L' B' F' (by rw [HDR.out]; exact AllR.cons hmd h)⟩
          rcases hn9 k hk with h | h
          · rcases hn6 k h with h | h
            · rcases hn5 k h with h | h
              · exact hnr k h
              · exact .inr (by omega)
            · exact .inr (by omega)
          · exact .inr (by omega)
        case measure => simp [intOf]; omega
    · have e : j = Q.length := by omega
      have hal : AllR T Q [⟨-1, []⟩] [] [] L B (F ++ [L.length]) := HK.out.1 _ _ _ (by rw [e, List.drop_length]; exact AllR.nil)
      have HAL : Hid _ := hal
      clear hal e
      go_wp2
      go_region_law
        ((refine step_append_lies _ (by rfl) _ _ _ (by rfl) 0 3 i0 _ 1 8 Tryz.underlying33 hi hz0 hz1 hz2 rfl (by omega) (.slice fa F.length fc) F.length (ints F) (by rfl) ((oF.alloc _).drew)
            ⟨wr.heap.size, 0, none⟩ 1 1 [.int .i64 (L.length : Int)] (by rfl) (by rfl) (World.news_of_block (cs := #[.int .i64 (L.length : Int)]) (t := 3) (fr := (0, 0)) (heap_alloc_new wr _)) (by simp [Value.oneCell'])
            (by omega) (by unfold maxLen; omega) (by omega) (by simp) (wr.heap.size + 1) (by simp) ?_; intro g2 cap2 w4 hn2 hg2 hat2 hlt2; have hb4 : w4.heap[b]? = _ := (hg2.block b (by simp; omega) (fun e => HA.out.1.nbF e.symm)).trans ((Below.heap_alloc _ _ _ hbl).trans HA.out.1.ro.blk); have fb2' := free_blk hb4 10; have cb2' := cell_blk hb4 10 _ HA.out.1.c10; clear hb4))
      all_goals
        obtain ⟨S5, M5, hS5, hE5, hn5⟩ := addF_fin L.length HA.out.1 HA.out.2.1 HA.out.2.2.1 HA.out.2.2.2.1 HA.out.2.2.2.2.1 HA.out.2.2.2.2.2.1 HA.out.2.2.2.2.2.2 (((Kept.refl _ _).alloc _).drew) hg2 hn2 (hat2.imp id (fun h => by omega)) hlt2
        clear cb2' fb2' hn2 hg2 hat2 hlt2 HA oF c7 c8 c10 hbl
        go_wp2
        go_end0
        have hEa := hEr.trans hE5
        exact ⟨rfl, ⟨S5, M5, L, B, _, hS5, HAL.out, fun k hk => by
          have hz5 := hEr.kept.size
          rcases hn5 k hk with h | h
          · rcases hnr k h with h | h
            · exact hLo k h
            · omega
          · omega⟩, M5, ⟨hEa.kept.mono (fun k _ hn e => hn (by rw [e]; exact hR.inS.1)), fun k hk => (hEa.new k hk).imp (fun e => by rw [e]; exact hR.inS.1) id⟩⟩
theorem comp_whole (w : World) (s : ByteArray) (hs : s.size ≤ 2000) : Calls Tryz.prog 53 #[.string s] w fun e w' => CompPost w s (Made w.heap.size) e w' :=
  comp_any w s (Made w.heap.size) hs (all_any w.heap.size s)
end Rf
end Go.Proofs.YtpgcidpghmoibaaGreatDoor
