/-
  THE PROGRAM's READER: the walks of name and use: the name behind a dollar sign; what it stands for, or an error and its place. Conditions: the reader stands at the dollar sign.
  THE PROGRAM's READER: the walks of bracket and atom, given what expr does one bracket deeper. Conditions: the reader stands where the next part begins.
-/
import Derived.Test.YtpgcidpghmoibaaGreatDoorK39
namespace Go.Proofs.YtpgcidpghmoibaaGreatDoor
namespace Pr
open Go.RowKit Go.Maps
open Rf (Kept)
open G (PNode)
set_option maxRecDepth 100000 in
set_option maxHeartbeats 1000000 in
theorem name_any (w : World) (b : Nat) (s : ByteArray) (c : C) (m vR : Value) (hR : RB w b s c m vR) (hs : s.size ≤ 2000) (hi : c.i < s.size) :
    Calls Tryz.prog 124 #[.pointer (some ⟨b, 0, none⟩)] w fun e w' => e = .returned (.string (G.name s c.i)) ∧ ∃ n, w' = w.drewN n := by
  obtain ⟨c0, c1, c2, c3, c4, c5, c6, fr⟩ := hR.reads
  have h0 : (0 : Int) ≤ (c.i : Int) + 1 := by omega
  have h1 : (c.i : Int) + 1 ≤ (s.size : Int) := by omega
  have hsz := extract_size s (c.i + 1) hi
  have hgr : ∀ (k : Nat) (hk : k < (s.extract (c.i + 1) s.size).size), ((s.extract (c.i + 1) s.size)[k]'hk).toNat = U.at' s (c.i + 1 + k) := by
    intro k hk
    rw [ByteArray.getElem_extract, U.at_get]
  have hcut : ∀ k, c.i + 1 + k ≤ s.size → (s.extract (c.i + 1) s.size).extract 0 k = s.extract (c.i + 1) (c.i + 1 + k) := by
    intro k hk
    rw [ByteArray.extract_extract]
    congr 1
    omega
  have hwr : IntKind.i64.wrap ((c.i : Int) + 1) = (c.i : Int) + 1 := by
    simp [IntKind.wrap, IntKind.bits, IntKind.signed]
    omega
  go_enter Tryz.func124, Tryz.ntmps124
  go_wp2
  refine wp_region_quiet_lit (by kernel_rfl) (by kernel_rfl) ?_
  repeat (first | go_big_quiet_step (fail) | quiet_step (fail))
  refine wpQuiet_nil ?_
  intro _ hw'
  obtain ⟨nq, hw''⟩ := hw'
  subst hw''
  obtain ⟨rest, hrest, hgr2, hcut2⟩ : ∃ r, r = s.extract (c.i + 1) s.size ∧ (∀ (k : Nat) (hk : k < r.size), (r[k]'hk).toNat = U.at' s (c.i + 1 + k)) ∧ ∀ k, c.i + 1 + k ≤ s.size → r.extract 0 k = s.extract (c.i + 1) (c.i + 1 + k) := ⟨_, rfl, hgr, hcut⟩
  rw [← hrest] at hsz ⊢
  clear hrest hgr hcut
  go_wp2
  go_loopw [4] (fun v wr => ∃ k : Nat, v = .int .i64 k ∧ k ≤ rest.size ∧ G.wend s (c.i + 1 + k) = G.wend s (c.i + 1) ∧ wr = w.drewN nq) (fun v _ => rest.size - (intOf v).toNat)
  case atStart => exact ⟨0, rfl, Nat.zero_le _, rfl, rfl⟩
  case round =>
    obtain ⟨k, rfl, hk, hwe, rfl⟩ := hrel
    have HW : Hid _ := hwe
    clear hwe
    by_cases hlow : G.low s (c.i + 1 + k) = true
    · obtain ⟨l1, l2, l3⟩ := (G.low_iff s _).1 hlow
      have hkr : k < rest.size := by omega
      have hg := hgr2 k hkr
      have hkr' : (k : Int) < (rest.size : Int) := by omega
      have g1 : (97 : Int) ≤ ((rest[k]'hkr).toNat : Int) := by omega
      have g2 : ((rest[k]'hkr).toNat : Int) ≤ 122 := by omega
      have HE := G.wend_step hlow
      have HE2 : Hid _ := HE
      clear HE hg hgr2 hlow
      go_wp2
      refine ⟨⟨k + 1, by go_num, by omega, ?_, by first | rfl | trivial⟩, by simp [intOf]; omega⟩
      rw [← HW.out, HE2.out]
      congr 1
    · have HE : Hid (G.wend s (c.i + 1 + k) = c.i + 1 + k) := G.wend_end hlow
      have hex : Hid (rest.extract 0 k = G.name s c.i) := by
        show rest.extract 0 k = _
        rw [hcut2 k (by omega), G.name, ← HW.out, HE.out]
      have hk0 : (k : Int) ≤ (rest.size : Int) := by omega
      by_cases hkr : k < rest.size
      · have hg := hgr2 k hkr
        have hkr' : (k : Int) < (rest.size : Int) := by omega
        have hnl : ¬ (97 ≤ U.at' s (c.i + 1 + k) ∧ U.at' s (c.i + 1 + k) ≤ 122) := fun hh => hlow ((G.low_iff s _).2 ⟨by omega, hh.1, hh.2⟩)
        rcases (by omega : (rest[k]'hkr).toNat < 97 ∨ (97 ≤ (rest[k]'hkr).toNat ∧ 122 < (rest[k]'hkr).toNat)) with g | ⟨g, g'⟩
        · have g1 : ¬ (97 : Int) ≤ ((rest[k]'hkr).toNat : Int) := by omega
          clear hg hgr2 hlow hcut2 g hnl
          go_wp2
          go_ret
          exact ⟨by rw [← hex.out]; rfl, _, rfl⟩
        · have g1 : (97 : Int) ≤ ((rest[k]'hkr).toNat : Int) := by omega
          have g2 : ¬ ((rest[k]'hkr).toNat : Int) ≤ 122 := by omega
          clear hg hgr2 hlow hcut2 g g' hnl
          go_wp2
          go_ret
          exact ⟨by rw [← hex.out]; rfl, _, rfl⟩
      · have hkr' : ¬ (k : Int) < (rest.size : Int) := by omega
        clear hgr2 hlow hcut2
        go_wp2
        go_ret
        exact ⟨by rw [← hex.out]; rfl, _, rfl⟩
theorem keyLaw : Keyed Tryz.prog 9 := string_keyed Tryz.underlying9
theorem EnvAt.look {w : World} {bm : Nat} {E : List (ByteArray × Nat)} {B : List Nat} (h : EnvAt w bm E B) (nm : ByteArray) (hn : nm.size ≤ maxLen) : (Instr.lookup 140 (.map (some bm)) (.string nm) false).run Tryz.prog w = .ok (envV E B nm) w := by
  obtain ⟨D, n, h1, _, h3⟩ := h
  obtain ⟨v, ps, hrun, hv⟩ := h1.lookup keyLaw Tryz.underlying140 (Tryz.zeroValue143 w) (zd := .held (.pointer none)) (zp := []) rfl (Go.WideMaps.keyOf_string_mk Tryz.underlying9 hn)
  rw [hrun]
  rw [h3 nm hn] at hv
  simp only [heldR, Option.some.injEq, Prod.mk.injEq, DataW.held.injEq] at hv
  rw [hv.1]
theorem name_size (s : ByteArray) (i : Nat) (hi : i < s.size) : (G.name s i).size = G.wend s (i + 1) - (i + 1) := by
  have := G.wend_le s (i + 1) (by omega)
  simp [G.name, ByteArray.size_extract]
  omega
set_option maxRecDepth 100000 in
set_option maxHeartbeats 1000000 in
theorem use_any (w : World) (b : Nat) (s : ByteArray) (c : C) (bm : Nat) (vR : Value) (I : Nat → Prop) (T : List PNode) (B : List Nat) (E : List (ByteArray × Nat)) (d : Nat) (r : G.Res) (h : PS w b s c bm vR I T B E) (h36 : G.pk s c.i = 36) (hr : G.R s E .atom d c.i T r) :
    Calls Tryz.prog 155 #[.pointer (some ⟨b, 0, none⟩)] w fun e w' => RPost w b s c bm vR I B E r e w' := by
  have hs := h.sz
  have hlt := G.lt_of_pk (s := s) (i := c.i) (by omega)
  have hN := name_any w b s c _ vR h.rb hs hlt
  have hnz := name_size s c.i hlt
  have hwl := G.wend_le s (c.i + 1) (by omega)
  have hwg := G.wend_ge s (c.i + 1)
  obtain ⟨c0, c1, c2, c3, c4, c5, c6, fr⟩ := h.rb.reads
  have hDr : ∀ n, Gr b w (w.drewN n) := fun n => Kept.drewN (Kept.refl _ w) n
  have hlook : ∀ n, _ := fun n => (h.env.kept (w' := w.drewN n) rfl).look (G.name s c.i) (by unfold maxLen; omega)
  have hcase : (G.wend s (c.i + 1) = c.i + 1 ∧ r = .err 2 c.i) ∨ (G.wend s (c.i + 1) ≠ c.i + 1 ∧ ((G.lookup E (G.name s c.i) = none ∧ r = .err 3 c.i) ∨ ∃ n, G.lookup E (G.name s c.i) = some n ∧ r = .ok n (G.wend s (c.i + 1)) T)) := by
    cases hr with
    | nameForm _ h2 => exact .inl ⟨h2, rfl⟩
    | nameErr _ h2 h3 => exact .inr ⟨h2, .inl ⟨h3, rfl⟩⟩
    | name _ h2 h3 => exact .inr ⟨h2, .inr ⟨_, h3, rfl⟩⟩
    | deep h1 => omega
    | parenErr h1 => omega
    | parenForm h1 => omega
    | paren h1 => omega
    | dot h1 => omega
    | quote h1 => omega
    | setNot h1 => omega
    | set h1 => omega
  clear hr
  rcases hcase with ⟨h2, rfl⟩ | ⟨h2, ⟨h3, rfl⟩ | ⟨n0, h3, rfl⟩⟩
  · generalize G.name s c.i = nm at *
    have hemp : nm.toList.isEmpty = true := by
      rw [← decide_eq_emptyBytes]
      exact decide_eq_true (ByteArray.size_eq_zero_iff.1 (by omega))
    clear hlook
    go_enter Tryz.func155, Tryz.ntmps155
    go_wp2_with (first
      | (go_at_call 124; refine hN.mono ?_; rintro e w1 ⟨rfl, n, rfl⟩)
      | (go_at_call 127; refine (fail_any (w.drewN n) b s c _ vR c.i 2 (h.rb.drewN n)).mono ?_; rintro e w2 ⟨rfl, hR2, hE2⟩))
    go_ret
    exact ⟨(hDr n).trans hE2.kept, rfl, _, _, hR2⟩
  · have hv : envV E B (G.name s c.i) = .pointer none := by rw [envV, h3]
    rw [hv] at hlook
    clear h3 hv
    generalize G.name s c.i = nm at *
    have hemp : nm.toList.isEmpty = false := by
      rw [← decide_eq_emptyBytes]
      exact decide_eq_false (fun h => by rw [h] at hnz; have : (ByteArray.empty).size = 0 := rfl; omega)
    go_enter Tryz.func155, Tryz.ntmps155
    go_wp2_with (first
      | (go_at_call 124; refine hN.mono ?_; rintro e w1 ⟨rfl, n, rfl⟩; have hl := hlook n)
      | (go_at_call 127; refine (fail_any (w.drewN n) b s c _ vR c.i 3 (h.rb.drewN n)).mono ?_; rintro e w2 ⟨rfl, hR2, hE2⟩))
    go_ret
    exact ⟨(hDr n).trans hE2.kept, rfl, _, _, hR2⟩
  · have hv : envV E B (G.name s c.i) = pv (bl B n0) := by rw [envV, h3]
    rw [hv] at hlook
    clear h3 hv
    generalize G.name s c.i = nm at *
    have hemp : nm.toList.isEmpty = false := by
      rw [← decide_eq_emptyBytes]
      exact decide_eq_false (fun h => by rw [h] at hnz; have : (ByteArray.empty).size = 0 := rfl; omega)
    have hnb : nm.size ≤ 2000 := by omega
    have hst : ∀ n, _ := fun n => step_any (w.drewN n) b s c _ vR (1 + nm.size) (h.rb.drewN n) hs (by omega)
    have he : c.i + (1 + nm.size) = G.wend s (c.i + 1) := by omega
    rw [he] at hst
    have hcast : ((1 + nm.size : Nat) : Int) = 1 + (nm.size : Int) := by omega
    rw [hcast] at hst
    clear hnz hcast he
    go_enter Tryz.func155, Tryz.ntmps155
    go_wp2_with (first
      | (go_at_call 124; refine hN.mono ?_; rintro e w1 ⟨rfl, n, rfl⟩; have hl := hlook n)
      | (go_at_call 125; refine (hst n).mono ?_; rintro e w2 ⟨rfl, hR2, hE2⟩))
    go_ret
    exact ⟨(hDr n).trans hE2.kept, I, B, rfl, h.step ((hDr n).trans hE2.kept) hR2 (G.skip_le s _ hwl), Ext.refl _ _ _⟩
end Pr
end Go.Proofs.YtpgcidpghmoibaaGreatDoor

namespace Go.Proofs.YtpgcidpghmoibaaGreatDoor
namespace Pr
open Go.RowKit Go.Maps
open Rf (Kept)
open G (PNode)
def ExprP (b : Nat) (s : ByteArray) (bm : Nat) (vR : Value) (E : List (ByteArray × Nat)) (d : Nat) : Prop :=
  ∀ (w : World) (c : C) (I : Nat → Prop) (T : List PNode) (B : List Nat) (i : Nat) (r : G.Res), PS w b s c bm vR I T B E → c.d = d → c.i = G.skip s i → G.R s E (.expr []) d i T r →
    Calls Tryz.prog 102 #[.pointer (some ⟨b, 0, none⟩)] w fun e w' => RPost w b s c bm vR I B E r e w'
theorem RPost.after {w w1 w' : World} {b : Nat} {s : ByteArray} {c c1 : C} {bm : Nat} {vR : Value} {I : Nat → Prop} {B : List Nat} {E : List (ByteArray × Nat)} {r : G.Res} {e : Ending} (h : RPost w1 b s c1 bm vR I B E r e w') (hg : Gr b w w1) (h2 : c1.d = c.d) (h3 : c1.p = c.p) (h4 : c1.e = c.e) : RPost w b s c bm vR I B E r e w' := by
  obtain ⟨g1, g2⟩ := h
  refine ⟨hg.trans g1, ?_⟩
  cases r with
  | ok n j T' =>
    obtain ⟨I', B', e1, hp, hx⟩ := g2
    refine ⟨I', B', e1, ?_, hx.low hg.size⟩
    have ec : ({ c1 with i := G.skip s j } : C) = { c with i := G.skip s j } := by rw [h2, h3, h4]
    rw [ec] at hp
    exact hp
  | err er p => exact g2
set_option maxRecDepth 100000 in
set_option maxHeartbeats 1000000 in
theorem bracket_any (w : World) (b : Nat) (s : ByteArray) (c : C) (bm : Nat) (vR : Value) (I : Nat → Prop) (T : List PNode) (B : List Nat) (E : List (ByteArray × Nat)) (d : Nat) (r : G.Res) (h : PS w b s c bm vR I T B E) (hd : c.d = d) (hp : G.pk s c.i = 40) (hr : G.R s E .atom d c.i T r) (hIH0 : d < 40 → ExprP b s bm vR E (d + 1)) (hd40 : d ≤ 40) :
    Calls Tryz.prog 152 #[.pointer (some ⟨b, 0, none⟩)] w fun e w' => RPost w b s c bm vR I B E r e w' := by
  subst hd
  have hs := h.sz
  have hlt := G.lt_of_pk (s := s) (i := c.i) (by omega)
  obtain ⟨c0, c1, c2, c3, c4, c5, c6, fr⟩ := h.rb.reads
  have hcase : (c.d = 40 ∧ r = .err 5 c.i) ∨ (c.d ≠ 40 ∧ ((∃ e p, r = .err e p ∧ G.R s E (.expr []) (c.d + 1) (c.i + 1) T (.err e p)) ∨ ∃ n j T', G.R s E (.expr []) (c.d + 1) (c.i + 1) T (.ok n j T') ∧ ((G.pk s (G.skip s j) ≠ 41 ∧ r = .err 2 (G.skip s j)) ∨ (G.pk s (G.skip s j) = 41 ∧ r = .ok n (G.skip s j + 1) T')))) := by
    cases hr with
    | deep _ h2 => exact .inl ⟨h2, rfl⟩
    | parenErr _ h2 h3 => exact .inr ⟨h2, .inl ⟨_, _, rfl, h3⟩⟩
    | parenForm _ h2 h3 h4 => exact .inr ⟨h2, .inr ⟨_, _, _, h3, .inl ⟨h4, rfl⟩⟩⟩
    | paren _ h2 h3 h4 => exact .inr ⟨h2, .inr ⟨_, _, _, h3, .inr ⟨h4, rfl⟩⟩⟩
    | nameForm h1 => omega
    | nameErr h1 => omega
    | name h1 => omega
    | dot h1 => omega
    | quote h1 => omega
    | setNot h1 => omega
    | set h1 => omega
  clear hr
  rcases hcase with ⟨h40, rfl⟩ | ⟨h40, hcase⟩
  · have hd40 : c.d = 40 := by omega
    rw [hd40] at c2
    go_enter Tryz.func152, Tryz.ntmps152
    go_wp2_with (go_at_call 127; refine (fail_any w b s c _ vR c.i 5 h.rb).mono ?_; rintro e w2 ⟨rfl, hR2, hE2⟩)
    go_ret
    exact ⟨hE2.kept, rfl, _, _, hR2⟩
  · have hdne : ¬ (c.d : Int) = 40 := by omega
    have hdl : c.d < 40 := by omega
    have hIH := hIH0 (by omega)
    have hS1 := h.step (c' := { c with d := c.d + 1 }) (Gr.set (Kept.refl _ w) 2 (.int .i64 ((c.d + 1 : Nat) : Int))) (h.rb.setD (c.d + 1)) h.ci
    have hcast : ((c.d + 1 : Nat) : Int) = (c.d : Int) + 1 := by omega
    rw [hcast] at hS1
    have hSt := step_any _ b s _ _ vR 1 hS1.rb hs hlt
    have HG1 : Hid _ := hS1
    clear hS1
    rcases hcase with ⟨er, pl, rfl, hR⟩ | ⟨n, j, T', hR, hc⟩
    · go_enter Tryz.func152, Tryz.ntmps152
      go_wp2_with (first
        | (go_at_call 102; refine hX.mono ?_; rintro e w3 ⟨hg3, rfl, i3, d3, hR3⟩)
        | (go_at_call 125; refine hSt.mono ?_; rintro e w2 ⟨rfl, hR2, hE2⟩; have hP2 := HG1.out.step hE2.kept hR2 (G.skip_le s _ hlt); have hX := hIH w2 _ I T B (c.i + 1) _ hP2 rfl rfl hR; have HG2 : Hid (Gr b w w2) := (Gr.set (Kept.refl _ w) 2 _).trans hE2.kept))
      go_ret
      exact ⟨HG2.out.trans hg3, rfl, _, _, hR3⟩
    · rcases hc with ⟨h41, rfl⟩ | ⟨h41, rfl⟩
      · go_enter Tryz.func152, Tryz.ntmps152
        go_wp2_with (first
          | (go_at_call 103; refine (expect_not w3 b s _ _ vR 41 (by omega) hP3.rb hs hP3.ci h41).mono ?_; rintro e w4 ⟨rfl, hR4, hE4⟩)
          | (go_at_call 102; refine hX.mono ?_; rintro e w3 ⟨hg3, I', B', rfl, hP3, hX3⟩)
          | (go_at_call 125; refine hSt.mono ?_; rintro e w2 ⟨rfl, hR2, hE2⟩; have hP2 := HG1.out.step hE2.kept hR2 (G.skip_le s _ hlt); have hX := hIH w2 _ I T B (c.i + 1) _ hP2 rfl rfl hR; have HG2 : Hid (Gr b w w2) := (Gr.set (Kept.refl _ w) 2 _).trans hE2.kept))
        go_ret
        exact ⟨(HG2.out.trans hg3).trans hE4.kept, rfl, _, _, hR4⟩
      · have hlt4 := G.lt_of_pk (s := s) (i := G.skip s j) (by omega)
        go_enter Tryz.func152, Tryz.ntmps152
        go_wp2_with (first
          | (go_at_call 103; refine (expect_yes w3 b s _ _ vR 41 (by omega) hP3.rb hs hP3.ci h41).mono ?_; rintro e w4 ⟨rfl, hR4, hE4⟩; obtain ⟨d0, d1, d2, d3, d4, d5, d6, dr⟩ := hR4.reads; have d2' : w4.cell? ⟨b, 2, none⟩ = some (.int .i64 ((c.d : Int) + 1)) := (by rw [d2]; rfl); clear d2)
          | (go_at_call 102; refine hX.mono ?_; rintro e w3 ⟨hg3, I', B', rfl, hP3, hX3⟩; clear c0 c1 c2 c3 c4 c5 c6 fr)
          | (go_at_call 125; refine hSt.mono ?_; rintro e w2 ⟨rfl, hR2, hE2⟩; have hP2 := HG1.out.step hE2.kept hR2 (G.skip_le s _ hlt); have hX := hIH w2 _ I T B (c.i + 1) _ hP2 rfl rfl hR; have HG2 : Hid (Gr b w w2) := (Gr.set (Kept.refl _ w) 2 _).trans hE2.kept))
        go_ret
        have hG4 := (HG2.out.trans hg3).trans hE4.kept
        refine ⟨Gr.set hG4 _ _, I', B', rfl, ?_, hX3.low HG2.out.size⟩
        exact hP3.step (Gr.set hE4.kept 2 _) (hR4.setD c.d) (G.skip_le s _ hlt4)
set_option maxRecDepth 100000 in
set_option maxHeartbeats 1000000 in
theorem atom_paren (w : World) (b : Nat) (s : ByteArray) (c : C) (bm : Nat) (vR : Value) (I : Nat → Prop) (T : List PNode) (B : List Nat) (E : List (ByteArray × Nat)) (d : Nat) (r : G.Res) (h : PS w b s c bm vR I T B E) (hd : c.d = d) (hp : G.pk s c.i = 40) (hr : G.R s E .atom d c.i T r) (hIH0 : d < 40 → ExprP b s bm vR E (d + 1)) (hd40 : d ≤ 40) :
    Calls Tryz.prog 148 #[.pointer (some ⟨b, 0, none⟩)] w fun e w' => RPost w b s c bm vR I B E r e w' := by
  have hs := h.sz
  have hlt := G.lt_of_pk (s := s) (i := c.i) (by omega)
  have hPk := peek_any w b s c _ vR h.rb hs h.ci
  rw [(pkV_eq (by omega)).2 hp] at hPk
  have hDr : ∀ n, Gr b w (w.drewN n) := fun n => Kept.drewN (Kept.refl _ w) n
  have hPn : ∀ n, PS (w.drewN n) b s c bm vR I T B E := fun n => h.step (hDr n) (h.rb.drewN n) h.ci
  go_enter Tryz.func148, Tryz.ntmps148
  go_wp2_with (first
    | (go_at_call 152; refine (bracket_any (w.drewN n) b s c bm vR I T B E d r (hPn n) hd hp hr hIH0 hd40).mono ?_; rintro e w2 hpo; have HPo : Hid (RPost w b s c bm vR I B E r e w2) := hpo.after (c := c) (hDr n) rfl rfl rfl; obtain ⟨g1, g2⟩ := hpo; cases r
       case' ok nn j T' => obtain ⟨I', B', rfl, _, _⟩ := g2
       case' err er pl => obtain ⟨rfl, _⟩ := g2)
    | (go_at_call 98; refine hPk.mono ?_; rintro e w1 ⟨rfl, n, rfl⟩))
  all_goals go_ret
  all_goals exact HPo.out
set_option maxRecDepth 100000 in
set_option maxHeartbeats 1000000 in
theorem atom_dot (w : World) (b : Nat) (s : ByteArray) (c : C) (bm : Nat) (vR : Value) (I : Nat → Prop) (T : List PNode) (B : List Nat) (E : List (ByteArray × Nat)) (d : Nat) (r : G.Res) (h : PS w b s c bm vR I T B E) (_hd : c.d = d) (hp : G.pk s c.i = 46) (hr : G.R s E .atom d c.i T r) :
    Calls Tryz.prog 148 #[.pointer (some ⟨b, 0, none⟩)] w fun e w' => RPost w b s c bm vR I B E r e w' := by
  have hs := h.sz
  have hlt := G.lt_of_pk (s := s) (i := c.i) (by omega)
  have hPk := peek_any w b s c _ vR h.rb hs h.ci
  rw [(pkV_eq (by omega)).2 hp] at hPk
  have hDr : ∀ n, Gr b w (w.drewN n) := fun n => Kept.drewN (Kept.refl _ w) n
  have hPn : ∀ n, PS (w.drewN n) b s c bm vR I T B E := fun n => h.step (hDr n) (h.rb.drewN n) h.ci
  have hre : r = .ok T.length (c.i + 1) (T ++ [G.mk T 115 [] true []]) := by
    cases hr with
    | dot _ => rfl
    | deep h1 => omega
    | parenErr h1 => omega
    | parenForm h1 => omega
    | paren h1 => omega
    | nameForm h1 => omega
    | nameErr h1 => omega
    | name h1 => omega
    | quote h1 => omega
    | setNot h1 => omega
    | set h1 => omega
  subst hre
  clear hr
  go_enter Tryz.func148, Tryz.ntmps148
  go_wp2_with (first
    | (go_at_call 153
       refine hN4.mono ?_
       rintro e w4 ⟨a, rfl, ha4, hblk4, hb4⟩
       have hb24 := below_then hb3 hb4
       obtain ⟨I4, hP4, hX4, _, hbl4⟩ := leaf_ps hP2 hb24 (Nat.le_trans hb3.size ha4) hblk4 (own_same_at ho3 (fun k e => hb4.block k (ho3.lt k e).2)) hok3 (by simp) (LocP.nil _ w2.heap.size I B) (by simp)
       have HL4 : Hid _ := And.intro hP4 (And.intro hX4 (And.intro hbl4 (hG2.trans (Gr.below hb24))))
       clear hP4 hX4 hbl4 hblk4 ha4 hb4 hb24 ho3 hok3 hb3 hN4 hN3)
    | (go_at_call 154; refine hN3.mono ?_; rintro e w3 ⟨vs, rfl, ⟨vr, rs', rfl, ho3, hok3⟩, hb3⟩; have hN4 := leaf_any w3 vr true (by obtain ⟨z1, z2, z3⟩ := Rf.own_len ho3; exact ⟨z1, _, z2, z3⟩))
    | (go_at_call 125; refine (step_any (w.drewN n) b s _ _ vR 1 (h.rb.drewN n) hs hlt).mono ?_; rintro e w2 ⟨rfl, hR2, hE2⟩; have hG2 : Gr b w w2 := (hDr n).trans hE2.kept; have hP2 := h.step hG2 hR2 (G.skip_le s _ hlt); have hN3 := except_any w2 [] (.slice none 0 0) (World.ownsRow_nil _ _ _ _) (by simp) (by simp) (by simp))
    | (go_at_call 98; refine hPk.mono ?_; rintro e w1 ⟨rfl, n, rfl⟩))
  go_ret
  obtain ⟨q1, q2, q3, q4⟩ := HL4.out
  exact ⟨q4, I4, B ++ [a], by rw [q3]; rfl, q1, q2.low hG2.size⟩
set_option maxRecDepth 100000 in
set_option maxHeartbeats 1000000 in
theorem atom_use (w : World) (b : Nat) (s : ByteArray) (c : C) (bm : Nat) (vR : Value) (I : Nat → Prop) (T : List PNode) (B : List Nat) (E : List (ByteArray × Nat)) (d : Nat) (r : G.Res) (h : PS w b s c bm vR I T B E) (_hd : c.d = d) (hp : G.pk s c.i = 36) (hr : G.R s E .atom d c.i T r) :
    Calls Tryz.prog 148 #[.pointer (some ⟨b, 0, none⟩)] w fun e w' => RPost w b s c bm vR I B E r e w' := by
  have hs := h.sz
  have hlt := G.lt_of_pk (s := s) (i := c.i) (by omega)
  have hPk := peek_any w b s c _ vR h.rb hs h.ci
  rw [(pkV_eq (by omega)).2 hp] at hPk
  have hDr : ∀ n, Gr b w (w.drewN n) := fun n => Kept.drewN (Kept.refl _ w) n
  have hPn : ∀ n, PS (w.drewN n) b s c bm vR I T B E := fun n => h.step (hDr n) (h.rb.drewN n) h.ci
  go_enter Tryz.func148, Tryz.ntmps148
  go_wp2_with (first
    | (go_at_call 155; refine (use_any (w.drewN n) b s c bm vR I T B E d r (hPn n) hp hr).mono ?_; rintro e w2 hpo; have HPo : Hid (RPost w b s c bm vR I B E r e w2) := hpo.after (c := c) (hDr n) rfl rfl rfl; obtain ⟨g1, g2⟩ := hpo; cases r
       case' ok nn j T' => obtain ⟨I', B', rfl, _, _⟩ := g2
       case' err er pl => obtain ⟨rfl, _⟩ := g2)
    | (go_at_call 98; refine hPk.mono ?_; rintro e w1 ⟨rfl, n, rfl⟩))
  all_goals go_ret
  all_goals exact HPo.out
set_option maxRecDepth 100000 in
set_option maxHeartbeats 1000000 in
theorem atom_quote (w : World) (b : Nat) (s : ByteArray) (c : C) (bm : Nat) (vR : Value) (I : Nat → Prop) (T : List PNode) (B : List Nat) (E : List (ByteArray × Nat)) (d : Nat) (r : G.Res) (h : PS w b s c bm vR I T B E) (_hd : c.d = d) (hp : G.pk s c.i = 39) (hr : G.R s E (.quote []) d (c.i + 1) T r) :
    Calls Tryz.prog 148 #[.pointer (some ⟨b, 0, none⟩)] w fun e w' => RPost w b s c bm vR I B E r e w' := by
  have hs := h.sz
  have hlt := G.lt_of_pk (s := s) (i := c.i) (by omega)
  have hPk := peek_any w b s c _ vR h.rb hs h.ci
  rw [(pkV_eq (by omega)).2 hp] at hPk
  have hDr : ∀ n, Gr b w (w.drewN n) := fun n => Kept.drewN (Kept.refl _ w) n
  have hPn : ∀ n, PS (w.drewN n) b s c bm vR I T B E := fun n => h.step (hDr n) (h.rb.drewN n) h.ci
  go_enter Tryz.func148, Tryz.ntmps148
  go_wp2_with (first
    | (go_at_call 156; refine (quote_any (w.drewN n) b s c bm vR I T B E d r (hPn n) hlt hr).mono ?_; rintro e w2 hpo; have HPo : Hid (RPost w b s c bm vR I B E r e w2) := hpo.after (c := c) (hDr n) rfl rfl rfl; obtain ⟨g1, g2⟩ := hpo; cases r
       case' ok nn j T' => obtain ⟨I', B', rfl, _, _⟩ := g2
       case' err er pl => obtain ⟨rfl, _⟩ := g2)
    | (go_at_call 98; refine hPk.mono ?_; rintro e w1 ⟨rfl, n, rfl⟩))
  all_goals go_ret
  all_goals exact HPo.out
set_option maxRecDepth 100000 in
set_option maxHeartbeats 1000000 in
theorem atom_setn (w : World) (b : Nat) (s : ByteArray) (c : C) (bm : Nat) (vR : Value) (I : Nat → Prop) (T : List PNode) (B : List Nat) (E : List (ByteArray × Nat)) (d : Nat) (r : G.Res) (h : PS w b s c bm vR I T B E) (_hd : c.d = d) (hp : G.pk s c.i = 91) (h94 : G.pk s (c.i + 1) = 94) (hr : G.R s E (.set true []) d (c.i + 2) T r) :
    Calls Tryz.prog 148 #[.pointer (some ⟨b, 0, none⟩)] w fun e w' => RPost w b s c bm vR I B E r e w' := by
  have hs := h.sz
  have hlt := G.lt_of_pk (s := s) (i := c.i) (by omega)
  have hPk := peek_any w b s c _ vR h.rb hs h.ci
  rw [(pkV_eq (by omega)).2 hp] at hPk
  have hDr : ∀ n, Gr b w (w.drewN n) := fun n => Kept.drewN (Kept.refl _ w) n
  have hPn : ∀ n, PS (w.drewN n) b s c bm vR I T B E := fun n => h.step (hDr n) (h.rb.drewN n) h.ci
  go_enter Tryz.func148, Tryz.ntmps148
  go_wp2_with (first
    | (go_at_call 157; refine (set_not (w.drewN n) b s c bm vR I T B E d r (hPn n) hlt h94 hr).mono ?_; rintro e w2 hpo; have HPo : Hid (RPost w b s c bm vR I B E r e w2) := hpo.after (c := c) (hDr n) rfl rfl rfl; obtain ⟨g1, g2⟩ := hpo; cases r
       case' ok nn j T' => obtain ⟨I', B', rfl, _, _⟩ := g2
       case' err er pl => obtain ⟨rfl, _⟩ := g2)
    | (go_at_call 98; refine hPk.mono ?_; rintro e w1 ⟨rfl, n, rfl⟩))
  all_goals go_ret
  all_goals exact HPo.out
set_option maxRecDepth 100000 in
set_option maxHeartbeats 1000000 in
theorem atom_setp (w : World) (b : Nat) (s : ByteArray) (c : C) (bm : Nat) (vR : Value) (I : Nat → Prop) (T : List PNode) (B : List Nat) (E : List (ByteArray × Nat)) (d : Nat) (r : G.Res) (h : PS w b s c bm vR I T B E) (_hd : c.d = d) (hp : G.pk s c.i = 91) (h94 : G.pk s (c.i + 1) ≠ 94) (hr : G.R s E (.set false []) d (c.i + 1) T r) :
    Calls Tryz.prog 148 #[.pointer (some ⟨b, 0, none⟩)] w fun e w' => RPost w b s c bm vR I B E r e w' := by
  have hs := h.sz
  have hlt := G.lt_of_pk (s := s) (i := c.i) (by omega)
  have hPk := peek_any w b s c _ vR h.rb hs h.ci
  rw [(pkV_eq (by omega)).2 hp] at hPk
  have hDr : ∀ n, Gr b w (w.drewN n) := fun n => Kept.drewN (Kept.refl _ w) n
  have hPn : ∀ n, PS (w.drewN n) b s c bm vR I T B E := fun n => h.step (hDr n) (h.rb.drewN n) h.ci
  go_enter Tryz.func148, Tryz.ntmps148
  go_wp2_with (first
    | (go_at_call 157; refine (set_plain (w.drewN n) b s c bm vR I T B E d r (hPn n) hlt h94 hr).mono ?_; rintro e w2 hpo; have HPo : Hid (RPost w b s c bm vR I B E r e w2) := hpo.after (c := c) (hDr n) rfl rfl rfl; obtain ⟨g1, g2⟩ := hpo; cases r
       case' ok nn j T' => obtain ⟨I', B', rfl, _, _⟩ := g2
       case' err er pl => obtain ⟨rfl, _⟩ := g2)
    | (go_at_call 98; refine hPk.mono ?_; rintro e w1 ⟨rfl, n, rfl⟩))
  all_goals go_ret
  all_goals exact HPo.out
theorem atom_any (w : World) (b : Nat) (s : ByteArray) (c : C) (bm : Nat) (vR : Value) (I : Nat → Prop) (T : List PNode) (B : List Nat) (E : List (ByteArray × Nat)) (d : Nat) (r : G.Res) (h : PS w b s c bm vR I T B E) (hd : c.d = d) (hr : G.R s E .atom d c.i T r) (hIH0 : d < 40 → ExprP b s bm vR E (d + 1)) (hd40 : d ≤ 40) :
    Calls Tryz.prog 148 #[.pointer (some ⟨b, 0, none⟩)] w fun e w' => RPost w b s c bm vR I B E r e w' := by
  cases hr with
  | deep h1 h2 => exact atom_paren w b s c bm vR I T B E d _ h hd h1 (.deep h1 h2) hIH0 hd40
  | parenErr h1 h2 h3 => exact atom_paren w b s c bm vR I T B E d _ h hd h1 (.parenErr h1 h2 h3) hIH0 hd40
  | parenForm h1 h2 h3 h4 => exact atom_paren w b s c bm vR I T B E d _ h hd h1 (.parenForm h1 h2 h3 h4) hIH0 hd40
  | paren h1 h2 h3 h4 => exact atom_paren w b s c bm vR I T B E d _ h hd h1 (.paren h1 h2 h3 h4) hIH0 hd40
  | dot h1 => exact atom_dot w b s c bm vR I T B E d _ h hd h1 (.dot h1)
  | nameForm h1 h2 => exact atom_use w b s c bm vR I T B E d _ h hd h1 (.nameForm h1 h2)
  | nameErr h1 h2 h3 => exact atom_use w b s c bm vR I T B E d _ h hd h1 (.nameErr h1 h2 h3)
  | name h1 h2 h3 => exact atom_use w b s c bm vR I T B E d _ h hd h1 (.name h1 h2 h3)
  | quote h1 h2 => exact atom_quote w b s c bm vR I T B E d _ h hd h1 h2
  | setNot h1 h2 h3 => exact atom_setn w b s c bm vR I T B E d _ h hd h1 h2 h3
  | set h1 h2 h3 => exact atom_setp w b s c bm vR I T B E d _ h hd h1 h2 h3
set_option maxRecDepth 100000 in
set_option maxHeartbeats 1000000 in
theorem atom_none (w : World) (b : Nat) (s : ByteArray) (c : C) (bm : Nat) (vR : Value) (I : Nat → Prop) (T : List PNode) (B : List Nat) (E : List (ByteArray × Nat)) (h : PS w b s c bm vR I T B E) (ha : G.atomic (G.pk s c.i) = false) :
    Calls Tryz.prog 148 #[.pointer (some ⟨b, 0, none⟩)] w fun e w' => RPost w b s c bm vR I B E (.err 2 c.i) e w' := by
  have hs := h.sz
  have hPk := peek_any w b s c _ vR h.rb hs h.ci
  have hDr : ∀ n, Gr b w (w.drewN n) := fun n => Kept.drewN (Kept.refl _ w) n
  simp only [G.atomic, decide_eq_false_iff_not] at ha
  have p1 := pkV_ne (s := s) (i := c.i) (c := 40) (by omega) (fun e => ha (by omega))
  have p2 := pkV_ne (s := s) (i := c.i) (c := 46) (by omega) (fun e => ha (by omega))
  have p3 := pkV_ne (s := s) (i := c.i) (c := 36) (by omega) (fun e => ha (by omega))
  have p4 := pkV_ne (s := s) (i := c.i) (c := 39) (by omega) (fun e => ha (by omega))
  have p5 := pkV_ne (s := s) (i := c.i) (c := 91) (by omega) (fun e => ha (by omega))
  generalize pkV s c.i = p at hPk p1 p2 p3 p4 p5
  obtain ⟨c0, c1, c2, c3, c4, c5, c6, fr⟩ := h.rb.reads
  clear ha
  go_enter Tryz.func148, Tryz.ntmps148
  go_wp2_with (first
    | (go_at_call 127; refine (fail_any (w.drewN n) b s c _ vR c.i 2 (h.rb.drewN n)).mono ?_; rintro e w2 ⟨rfl, hR2, hE2⟩)
    | (go_at_call 98; refine hPk.mono ?_; rintro e w1 ⟨rfl, n, rfl⟩))
  go_ret
  exact ⟨(hDr n).trans hE2.kept, rfl, _, _, hR2⟩
end Pr
end Go.Proofs.YtpgcidpghmoibaaGreatDoor
