/-
  THE REFERENCE's READER: the walk of atom, given what expr does one bracket deeper. Conditions: the source has at most 2000 bytes; there was no error ahead; the table of nodes is well made and has at most four nodes a byte.
  THE REFERENCE's READER: the walk of atom at an opening bracket, given what expr does one bracket deeper; atom as a whole. Conditions: the source has at most 2000 bytes; there was no error ahead; the table of nodes is well made and has at most four nodes a byte.
-/
import Derived.Test.YtpgcidpghmoibaaGreatDoorK17
import Derived.Test.YtpgcidpghmoibaaGreatDoorK18
namespace Go.Proofs.YtpgcidpghmoibaaGreatDoor
namespace Rf
open Go.RowKit
open G (PNode)
def ExprAt (b : Nat) (s : ByteArray) (d : Nat) : Prop :=
  ∀ (w : World) (S : Nat → Prop) (st : St), Rd w b s S st → Pre s st → st.env.length ≤ 100000 → st.deep = d →
    Calls Tryz.prog 111 #[.pointer (some ⟨b, 0, none⟩)] w fun e w' => ∃ v r, e = .returned (.int .i64 v) ∧ G.R s st.env (.expr []) st.deep st.i st.T r ∧ ReadPost w b s S st r (10 * (42 - d)) v w'
theorem ReadPost.after {w w1 w' : World} {b : Nat} {s : ByteArray} {S S1 : Nat → Prop} {st st1 : St} {r : G.Res} {B B' : Nat} {v : Int} (h : ReadPost w1 b s S1 st1 r B v w') (he : Evo w S w1 S1) (hB : B ≤ B')
    (h1 : st1.err = st.err) (h2 : st1.place = st.place) (h3 : st1.deep = st.deep) (h4 : st1.env = st.env) (h5 : st1.rules = st.rules) (h6 : st1.T = st.T) : ReadPost w b s S st r B' v w' := by
  obtain ⟨S', st', a1, a2, a3, a4, a5, a6⟩ := h
  refine ⟨S', st', a1, he.trans a2, a3.trans h3, a4.trans h4, a5.trans h5, ?_⟩
  cases r with
  | ok n j T' =>
    obtain ⟨b1, b2⟩ := a6
    refine ⟨b1, ?_⟩
    rw [b2]
    exact st_eq h1 h2 h3 h4 h5 _ _
  | err c p =>
    obtain ⟨b1, b2, b3, b4, b5, b6, b7⟩ := a6
    exact ⟨b1, b2, b3, by omega, by omega, b6, by rw [← h6]; exact b7⟩
set_option maxRecDepth 100000 in
set_option maxHeartbeats 2000000 in
theorem atom_deep (w : World) (b : Nat) (s : ByteArray) (S : Nat → Prop) (st : St) (d : Nat) (hR : Rd w b s S st) (hs : s.size ≤ 2000) (hP : Pre s st) (_hev : st.env.length ≤ 100000) (hd : st.deep = d) (_hd40 : d ≤ 40) (hp : G.pk s (G.skip s st.i) = 40) (h40 : d = 40) :
    Calls Tryz.prog 146 #[.pointer (some ⟨b, 0, none⟩)] w fun e w' => ∃ v r, e = .returned (.int .i64 v) ∧ G.R s st.env .atom st.deep (G.skip s st.i) st.T r ∧ ReadPost w b s S st r (10 * (41 - d) + 5) v w' := by
  obtain ⟨he0, hile, hTl, hwf, henv⟩ := hP
  obtain ⟨hSb, _⟩ := hR.inS
  have hkl := G.skip_le s st.i hile
  have hkg := G.skip_ge s st.i
  have hsee : seeV s { st with i := G.skip s st.i } = G.pk s (G.skip s st.i) := seeV_ok (st := { st with i := G.skip s st.i }) he0
  obtain ⟨k, hk⟩ : ∃ k, k = G.skip s st.i := ⟨_, rfl⟩
  rw [← hk] at hp hsee hkl hkg ⊢
  have hlt := G.lt_of_pk (s := s) (i := k) (by omega)
  rw [hp] at hsee
  have HK : Hid (k = G.skip s st.i) := hk
  have HD : Hid (st.deep = d) := hd
  clear hk hd
  have h40' : st.deep = 40 := by rw [HD.out]; exact h40
  have hR' : G.R s st.env .atom st.deep k st.T (.err 5 k) := G.R.deep hp h40'
  have HG : Hid _ := hR'
  clear hR'
  have hfa : failed { st with i := k } 5 k = { st with i := k, err := 5, place := k } := by rw [failed, if_pos he0]
  have HF : Hid _ := hfa
  clear hfa
  go_enter Tryz.func146, Tryz.ntmps146
  go_wp2_with (first
    | (go_at_call 80; refine (skip_any w b s S st hR hs hile he0).mono ?_; rw [← HK.out]; rintro e w1 ⟨rfl, hR1, hE1⟩; obtain ⟨c0, c1, c2, c3, c4, fr⟩ := hR1.reads)
    | (go_at_call 107; refine (see_any w1 b s S _ hR1 hs (by show k ≤ _; omega)).mono ?_; rw [hsee]; rintro e w2 ⟨rfl, n2, rfl⟩; have c4' : w1.cell? ⟨b, 4, none⟩ = some (.int .i64 40) := by rw [c4]; show some (Value.int .i64 ((st.deep : Nat) : Int)) = _; rw [h40']; rfl)
    | (go_at_call 110; refine (fail_any _ b s S _ 5 k (hR1.drewN _)).mono ?_; rw [HF.out]; rintro e w3 ⟨rfl, hR3, hE3⟩))
  go_ret
  exact ⟨_, _, rfl, HG.out, S, _, hR3, (hE1.drewN _).trans hE3, rfl, rfl, rfl, rfl, rfl, by omega, by show k ≤ _; omega, by show st.T.length ≤ _; omega, hwf.le, Nat.le_refl _⟩
set_option maxRecDepth 100000 in
set_option maxHeartbeats 2000000 in
theorem atom_dot (w : World) (b : Nat) (s : ByteArray) (S : Nat → Prop) (st : St) (d : Nat) (hR : Rd w b s S st) (hs : s.size ≤ 2000) (hP : Pre s st) (_hev : st.env.length ≤ 100000) (hd : st.deep = d) (_hd40 : d ≤ 40) (hp : G.pk s (G.skip s st.i) = 46) :
    Calls Tryz.prog 146 #[.pointer (some ⟨b, 0, none⟩)] w fun e w' => ∃ v r, e = .returned (.int .i64 v) ∧ G.R s st.env .atom st.deep (G.skip s st.i) st.T r ∧ ReadPost w b s S st r (10 * (41 - d) + 5) v w' := by
  obtain ⟨he0, hile, hTl, hwf, henv⟩ := hP
  obtain ⟨hSb, _⟩ := hR.inS
  have hkl := G.skip_le s st.i hile
  have hkg := G.skip_ge s st.i
  have hsee : seeV s { st with i := G.skip s st.i } = G.pk s (G.skip s st.i) := seeV_ok (st := { st with i := G.skip s st.i }) he0
  obtain ⟨k, hk⟩ : ∃ k, k = G.skip s st.i := ⟨_, rfl⟩
  rw [← hk] at hp hsee hkl hkg ⊢
  have hlt := G.lt_of_pk (s := s) (i := k) (by omega)
  rw [hp] at hsee
  have HK : Hid (k = G.skip s st.i) := hk
  have HD : Hid (st.deep = d) := hd
  clear hk hd
  have HG : Hid (G.R s st.env .atom st.deep k st.T _) := G.R.dot hp
  go_enter Tryz.func146, Tryz.ntmps146
  go_wp2_with (first
    | (go_at_call 135; refine hN.mono ?_; rintro e w5 ⟨rfl, S5, hR5, hE5⟩)
    | (go_at_call 80; refine (skip_any w b s S st hR hs hile he0).mono ?_; rw [← HK.out]; rintro e w1 ⟨rfl, hR1, hE1⟩; obtain ⟨c0, c1, c2, c3, c4, fr⟩ := hR1.reads)
    | (go_at_call 107; refine (see_any w1 b s S _ hR1 hs (by show k ≤ _; omega)).mono ?_; rw [hsee]; rintro e w2 ⟨rfl, n2, rfl⟩; have E34 := (hE1.drewN n2).set hSb (.inl hSb) 1 (.int .i64 ((k : Int) + 1)); have hN := nodeS_any _ b s S _ true w.heap.size (.slice none 0 0) [] (hR1.drewN n2).inc (World.ownsRow_nil _ _ _ _) (fun j e => none_own j _ e) (by show st.T.length ≤ _; omega) hwf.le w S E34 (by omega)))
  go_ret
  exact ⟨_, _, rfl, HG.out, S5, _, hR5, hE5, rfl, rfl, rfl, rfl, rfl⟩
set_option maxRecDepth 100000 in
set_option maxHeartbeats 2000000 in
theorem atom_quote (w : World) (b : Nat) (s : ByteArray) (S : Nat → Prop) (st : St) (d : Nat) (hR : Rd w b s S st) (hs : s.size ≤ 2000) (hP : Pre s st) (_hev : st.env.length ≤ 100000) (hd : st.deep = d) (_hd40 : d ≤ 40) (hp : G.pk s (G.skip s st.i) = 39) :
    Calls Tryz.prog 146 #[.pointer (some ⟨b, 0, none⟩)] w fun e w' => ∃ v r, e = .returned (.int .i64 v) ∧ G.R s st.env .atom st.deep (G.skip s st.i) st.T r ∧ ReadPost w b s S st r (10 * (41 - d) + 5) v w' := by
  obtain ⟨he0, hile, hTl, hwf, henv⟩ := hP
  obtain ⟨hSb, _⟩ := hR.inS
  have hkl := G.skip_le s st.i hile
  have hkg := G.skip_ge s st.i
  have hsee : seeV s { st with i := G.skip s st.i } = G.pk s (G.skip s st.i) := seeV_ok (st := { st with i := G.skip s st.i }) he0
  obtain ⟨k, hk⟩ : ∃ k, k = G.skip s st.i := ⟨_, rfl⟩
  rw [← hk] at hp hsee hkl hkg ⊢
  have hlt := G.lt_of_pk (s := s) (i := k) (by omega)
  rw [hp] at hsee
  have HK : Hid (k = G.skip s st.i) := hk
  have HD : Hid (st.deep = d) := hd
  clear hk hd
  go_enter Tryz.func146, Tryz.ntmps146
  go_wp2_with (first
    | (go_at_call 150; refine hN.mono ?_; rintro e w5 ⟨v, r, rfl, hr, hpo⟩; have HQ : Hid _ := And.intro hr (hpo.after (B' := 10 * (41 - d) + 5) E34 (by omega) rfl rfl rfl rfl rfl rfl); clear hr hpo)
    | (go_at_call 80; refine (skip_any w b s S st hR hs hile he0).mono ?_; rw [← HK.out]; rintro e w1 ⟨rfl, hR1, hE1⟩; obtain ⟨c0, c1, c2, c3, c4, fr⟩ := hR1.reads)
    | (go_at_call 107; refine (see_any w1 b s S _ hR1 hs (by show k ≤ _; omega)).mono ?_; rw [hsee]; rintro e w2 ⟨rfl, n2, rfl⟩; have E34 := (hE1.drewN n2).set hSb (.inl hSb) 1 (.int .i64 ((k : Int) + 1)); have hP1 : Pre s ({ st with i := k + 1 } : St) := ⟨he0, by show k + 1 ≤ _; omega, by show st.T.length ≤ 4 * (k + 1); omega, hwf, henv⟩; have hN := quote_any _ b s S _ (hR1.drewN n2).inc hs hP1))
  go_ret
  exact ⟨_, _, rfl, G.R.quote hp HQ.out.1, HQ.out.2⟩
set_option maxRecDepth 100000 in
set_option maxHeartbeats 2000000 in
theorem atom_set (w : World) (b : Nat) (s : ByteArray) (S : Nat → Prop) (st : St) (d : Nat) (hR : Rd w b s S st) (hs : s.size ≤ 2000) (hP : Pre s st) (_hev : st.env.length ≤ 100000) (hd : st.deep = d) (_hd40 : d ≤ 40) (hp : G.pk s (G.skip s st.i) = 91) :
    Calls Tryz.prog 146 #[.pointer (some ⟨b, 0, none⟩)] w fun e w' => ∃ v r, e = .returned (.int .i64 v) ∧ G.R s st.env .atom st.deep (G.skip s st.i) st.T r ∧ ReadPost w b s S st r (10 * (41 - d) + 5) v w' := by
  obtain ⟨he0, hile, hTl, hwf, henv⟩ := hP
  obtain ⟨hSb, _⟩ := hR.inS
  have hkl := G.skip_le s st.i hile
  have hkg := G.skip_ge s st.i
  have hsee : seeV s { st with i := G.skip s st.i } = G.pk s (G.skip s st.i) := seeV_ok (st := { st with i := G.skip s st.i }) he0
  obtain ⟨k, hk⟩ : ∃ k, k = G.skip s st.i := ⟨_, rfl⟩
  rw [← hk] at hp hsee hkl hkg ⊢
  have hlt := G.lt_of_pk (s := s) (i := k) (by omega)
  rw [hp] at hsee
  have HK : Hid (k = G.skip s st.i) := hk
  have HD : Hid (st.deep = d) := hd
  clear hk hd
  have HSR : Hid (∀ r, SetR s { st with i := k + 1 } r → G.R s st.env .atom st.deep k st.T r) := by
    intro r hr
    rcases hr with ⟨h1, h2⟩ | ⟨h1, h2⟩
    · exact G.R.setNot hp h1 h2
    · exact G.R.set hp h1 h2
  go_enter Tryz.func146, Tryz.ntmps146
  go_wp2_with (first
    | (go_at_call 151; refine hN.mono ?_; rintro e w5 ⟨v, r, rfl, hr, hpo⟩; have HQ : Hid _ := And.intro (HSR.out r hr) (hpo.after (B' := 10 * (41 - d) + 5) E34 (by omega) rfl rfl rfl rfl rfl rfl); clear hr hpo)
    | (go_at_call 80; refine (skip_any w b s S st hR hs hile he0).mono ?_; rw [← HK.out]; rintro e w1 ⟨rfl, hR1, hE1⟩; obtain ⟨c0, c1, c2, c3, c4, fr⟩ := hR1.reads)
    | (go_at_call 107; refine (see_any w1 b s S _ hR1 hs (by show k ≤ _; omega)).mono ?_; rw [hsee]; rintro e w2 ⟨rfl, n2, rfl⟩; have E34 := (hE1.drewN n2).set hSb (.inl hSb) 1 (.int .i64 ((k : Int) + 1)); have hP1 : Pre s ({ st with i := k + 1 } : St) := ⟨he0, by show k + 1 ≤ _; omega, by show st.T.length ≤ 4 * (k + 1); omega, hwf, henv⟩; have hN := set_any _ b s S _ (hR1.drewN n2).inc hs hP1))
  go_ret
  exact ⟨_, _, rfl, HQ.out.1, HQ.out.2⟩
set_option maxRecDepth 100000 in
set_option maxHeartbeats 2000000 in
theorem atom_name (w : World) (b : Nat) (s : ByteArray) (S : Nat → Prop) (st : St) (d : Nat) (hR : Rd w b s S st) (hs : s.size ≤ 2000) (hP : Pre s st) (_hev : st.env.length ≤ 100000) (hd : st.deep = d) (_hd40 : d ≤ 40) (hp : G.pk s (G.skip s st.i) = 36) :
    Calls Tryz.prog 146 #[.pointer (some ⟨b, 0, none⟩)] w fun e w' => ∃ v r, e = .returned (.int .i64 v) ∧ G.R s st.env .atom st.deep (G.skip s st.i) st.T r ∧ ReadPost w b s S st r (10 * (41 - d) + 5) v w' := by
  obtain ⟨he0, hile, hTl, hwf, henv⟩ := hP
  obtain ⟨hSb, _⟩ := hR.inS
  have hkl := G.skip_le s st.i hile
  have hkg := G.skip_ge s st.i
  have hsee : seeV s { st with i := G.skip s st.i } = G.pk s (G.skip s st.i) := seeV_ok (st := { st with i := G.skip s st.i }) he0
  obtain ⟨k, hk⟩ : ∃ k, k = G.skip s st.i := ⟨_, rfl⟩
  rw [← hk] at hp hsee hkl hkg ⊢
  have hlt := G.lt_of_pk (s := s) (i := k) (by omega)
  rw [hp] at hsee
  have HK : Hid (k = G.skip s st.i) := hk
  have HD : Hid (st.deep = d) := hd
  clear hk hd
  have hwe := G.wend_ge s (k + 1)
  have hwl := G.wend_le s (k + 1) (by omega)
  by_cases h1 : G.wend s (k + 1) = k + 1
  · have HG : Hid (G.R s st.env .atom st.deep k st.T _) := G.R.nameForm hp h1
    have hws : wordSt s { st with i := k } = { st with i := k + 1, err := 2, place := k } := by rw [wordSt, if_pos h1]
    have HW : Hid _ := hws
    clear hws
    go_enter Tryz.func146, Tryz.ntmps146
    go_wp2_with (first
      | (go_at_call 108; refine (word_any (w1.drewN n2) b s S { st with i := k } (hR1.drewN n2) hs hlt he0).mono ?_; rw [HW.out]; rintro e w3 ⟨rfl, hE3, hR3⟩; clear c0 c1 c2 c3 c4 fr; obtain ⟨c0, c1, c2, c3, c4, fr⟩ := hR3.reads)
      | (go_at_call 109; refine (find_any w3 b s S _ _ hR3 _hev).mono ?_; rintro e w4 ⟨rfl, rfl⟩)
      | (go_at_call 80; refine (skip_any w b s S st hR hs hile he0).mono ?_; rw [← HK.out]; rintro e w1 ⟨rfl, hR1, hE1⟩; obtain ⟨c0, c1, c2, c3, c4, fr⟩ := hR1.reads)
      | (go_at_call 107; refine (see_any w1 b s S _ hR1 hs (by show k ≤ _; omega)).mono ?_; rw [hsee]; rintro e w2 ⟨rfl, n2, rfl⟩))
    go_ret
    exact ⟨_, _, rfl, HG.out, S, _, hR3, (hE1.drewN _).trans hE3, rfl, rfl, rfl, rfl, rfl, by omega, by show k + 1 ≤ _; omega, by show st.T.length ≤ _; omega, hwf.le, Nat.le_refl _⟩
  · have hws : wordSt s { st with i := k } = { st with i := G.wend s (k + 1) } := by rw [wordSt, if_neg h1]
    have HW : Hid _ := hws
    clear hws
    cases hlo : G.lookup st.env (G.name s k) with
    | none =>
      have HG : Hid (G.R s st.env .atom st.deep k st.T _) := G.R.nameErr hp h1 hlo
      have hfv : findV st.env (G.name s k) = -1 := by unfold findV; rw [hlo]
      have hfa : failed { st with i := G.wend s (k + 1) } 3 k = { st with i := G.wend s (k + 1), err := 3, place := k } := by rw [failed, if_pos he0]
      have HF : Hid _ := hfa
      clear hfa hlo
      go_enter Tryz.func146, Tryz.ntmps146
      go_wp2_with (first
        | (go_at_call 108; refine (word_any (w1.drewN n2) b s S { st with i := k } (hR1.drewN n2) hs hlt he0).mono ?_; rw [HW.out]; rintro e w3 ⟨rfl, hE3, hR3⟩; clear c0 c1 c2 c3 c4 fr; obtain ⟨c0, c1, c2, c3, c4, fr⟩ := hR3.reads; have c2' : w3.cell? ⟨b, 2, none⟩ = some (.int .i64 0) := by rw [c2]; show some (Value.int .i64 ((st.err : Nat) : Int)) = _; rw [he0]; rfl)
        | (go_at_call 109; refine (find_any w3 b s S _ (G.name s k) hR3 _hev).mono ?_; rw [show findV ({ st with i := G.wend s (k + 1) } : St).env (G.name s k) = -1 from hfv]; rintro e w4 ⟨rfl, rfl⟩)
        | (go_at_call 110; refine (fail_any _ b s S _ 3 k hR3).mono ?_; rw [HF.out]; rintro e w5 ⟨rfl, hR5, hE5⟩)
        | (go_at_call 80; refine (skip_any w b s S st hR hs hile he0).mono ?_; rw [← HK.out]; rintro e w1 ⟨rfl, hR1, hE1⟩; obtain ⟨c0, c1, c2, c3, c4, fr⟩ := hR1.reads)
        | (go_at_call 107; refine (see_any w1 b s S _ hR1 hs (by show k ≤ _; omega)).mono ?_; rw [hsee]; rintro e w2 ⟨rfl, n2, rfl⟩))
      go_ret
      exact ⟨_, _, rfl, HG.out, S, _, hR5, ((hE1.drewN _).trans hE3).trans hE5, rfl, rfl, rfl, rfl, rfl, by omega, by show G.wend s (k + 1) ≤ _; omega, by show st.T.length ≤ _; omega, hwf.le, Nat.le_refl _⟩
    | some n =>
      have HG : Hid (G.R s st.env .atom st.deep k st.T _) := G.R.name hp h1 hlo
      have hfv : findV st.env (G.name s k) = (n : Int) := by unfold findV; rw [hlo]
      clear hlo
      go_enter Tryz.func146, Tryz.ntmps146
      go_wp2_with (first
        | (go_at_call 108; refine (word_any (w1.drewN n2) b s S { st with i := k } (hR1.drewN n2) hs hlt he0).mono ?_; rw [HW.out]; rintro e w3 ⟨rfl, hE3, hR3⟩; clear c0 c1 c2 c3 c4 fr; obtain ⟨c0, c1, c2, c3, c4, fr⟩ := hR3.reads; have c2' : w3.cell? ⟨b, 2, none⟩ = some (.int .i64 0) := by rw [c2]; show some (Value.int .i64 ((st.err : Nat) : Int)) = _; rw [he0]; rfl)
        | (go_at_call 109; refine (find_any w3 b s S _ (G.name s k) hR3 _hev).mono ?_; rw [show findV ({ st with i := G.wend s (k + 1) } : St).env (G.name s k) = (n : Int) from hfv]; rintro e w4 ⟨rfl, rfl⟩)
        | (go_at_call 80; refine (skip_any w b s S st hR hs hile he0).mono ?_; rw [← HK.out]; rintro e w1 ⟨rfl, hR1, hE1⟩; obtain ⟨c0, c1, c2, c3, c4, fr⟩ := hR1.reads)
        | (go_at_call 107; refine (see_any w1 b s S _ hR1 hs (by show k ≤ _; omega)).mono ?_; rw [hsee]; rintro e w2 ⟨rfl, n2, rfl⟩))
      go_ret
      exact ⟨_, _, rfl, HG.out, S, _, hR3, (hE1.drewN _).trans hE3, rfl, rfl, rfl, rfl, rfl⟩
set_option maxRecDepth 100000 in
set_option maxHeartbeats 2000000 in
theorem atom_none (w : World) (b : Nat) (s : ByteArray) (S : Nat → Prop) (st : St) (d : Nat) (hR : Rd w b s S st) (hs : s.size ≤ 2000) (hP : Pre s st) (_hev : st.env.length ≤ 100000) (hd : st.deep = d) (_hd40 : d ≤ 40) (hp : G.atomic (G.pk s (G.skip s st.i)) = false) :
    Calls Tryz.prog 146 #[.pointer (some ⟨b, 0, none⟩)] w fun e w' => e = .returned (.int .i64 (-1)) ∧ Evo w S w' S ∧ Rd w' b s S { st with i := G.skip s st.i } := by
  obtain ⟨he0, hile, hTl, hwf, henv⟩ := hP
  obtain ⟨hSb, _⟩ := hR.inS
  have hkl := G.skip_le s st.i hile
  have hkg := G.skip_ge s st.i
  have hsee : seeV s { st with i := G.skip s st.i } = G.pk s (G.skip s st.i) := seeV_ok (st := { st with i := G.skip s st.i }) he0
  obtain ⟨k, hk⟩ : ∃ k, k = G.skip s st.i := ⟨_, rfl⟩
  rw [← hk] at hp hsee hkl hkg ⊢
  have HK : Hid (k = G.skip s st.i) := hk
  have HD : Hid (st.deep = d) := hd
  clear hk hd
  simp only [G.atomic, decide_eq_false_iff_not] at hp
  generalize G.pk s k = p at hp hsee
  have p1 : (p == 40) = false := by simp; omega
  have p2 : (p == 46) = false := by simp; omega
  have p3 : (p == 36) = false := by simp; omega
  have p4 : (p == 39) = false := by simp; omega
  have p5 : (p == 91) = false := by simp; omega
  clear hp
  go_enter Tryz.func146, Tryz.ntmps146
  go_wp2_with (first
    | (go_at_call 80; refine (skip_any w b s S st hR hs hile he0).mono ?_; rw [← HK.out]; rintro e w1 ⟨rfl, hR1, hE1⟩; obtain ⟨c0, c1, c2, c3, c4, fr⟩ := hR1.reads)
    | (go_at_call 107; refine (see_any w1 b s S _ hR1 hs (by show k ≤ _; omega)).mono ?_; rw [hsee]; rintro e w2 ⟨rfl, n2, rfl⟩))
  go_ret
  exact ⟨rfl, hE1.drewN _, hR1.drewN _⟩
end Rf
end Go.Proofs.YtpgcidpghmoibaaGreatDoor

namespace Go.Proofs.YtpgcidpghmoibaaGreatDoor
namespace Rf
open Go.RowKit
open G (PNode)
def wantB (s : ByteArray) (st : St) (c : Nat) : St := if st.err = 0 then wantSt s st c else { st with i := st.i + 1 }
theorem want_both (w : World) (b : Nat) (s : ByteArray) (S : Nat → Prop) (st : St) (c : Nat) (hR : Rd w b s S st) (hs : s.size ≤ 2000) (hi : st.err = 0 → st.i ≤ s.size) (hi2 : st.i ≤ 100000) :
    Calls Tryz.prog 112 #[.pointer (some ⟨b, 0, none⟩), .int .i64 (c : Int)] w fun e w' => e = .returned (.tuple #[]) ∧ Evo w S w' S ∧ Rd w' b s S (wantB s st c) := by
  by_cases h : st.err = 0
  · rw [show wantB s st c = wantSt s st c by rw [wantB, if_pos h]]
    exact want_any w b s S st c hR hs (hi h) h
  · rw [show wantB s st c = { st with i := st.i + 1 } by rw [wantB, if_neg h]]
    exact want_no w b s S st c hR hs hi2 h
theorem wantB_yes {s : ByteArray} {st : St} {c : Nat} (h0 : st.err = 0) (h : G.pk s (G.skip s st.i) = (c : Int)) : wantB s st c = { st with i := G.skip s st.i + 1 } := by rw [wantB, if_pos h0, wantSt, if_pos h]
theorem wantB_no {s : ByteArray} {st : St} {c : Nat} (h0 : st.err = 0) (h : ¬ G.pk s (G.skip s st.i) = (c : Int)) : wantB s st c = { st with i := G.skip s st.i + 1, err := 2, place := G.skip s st.i } := by rw [wantB, if_pos h0, wantSt, if_neg h]
theorem wantB_err {s : ByteArray} {st : St} {c : Nat} (h0 : ¬ st.err = 0) : wantB s st c = { st with i := st.i + 1 } := by rw [wantB, if_neg h0]
theorem wantB_deep (s : ByteArray) (st : St) (c : Nat) : (wantB s st c).deep = st.deep := by
  unfold wantB wantSt
  split
  · split <;> rfl
  · rfl
set_option maxRecDepth 100000 in
set_option maxHeartbeats 2000000 in
theorem atom_paren (w : World) (b : Nat) (s : ByteArray) (S : Nat → Prop) (st : St) (d : Nat) (hR : Rd w b s S st) (hs : s.size ≤ 2000) (hP : Pre s st) (_hev : st.env.length ≤ 100000) (hd : st.deep = d) (_hd40 : d ≤ 40) (hp : G.pk s (G.skip s st.i) = 40) (h40 : d ≠ 40) (hIH : ExprAt b s (d + 1)) :
    Calls Tryz.prog 146 #[.pointer (some ⟨b, 0, none⟩)] w fun e w' => ∃ v r, e = .returned (.int .i64 v) ∧ G.R s st.env .atom st.deep (G.skip s st.i) st.T r ∧ ReadPost w b s S st r (10 * (41 - d) + 5) v w' := by
  obtain ⟨he0, hile, hTl, hwf, henv⟩ := hP
  obtain ⟨hSb, _⟩ := hR.inS
  have hkl := G.skip_le s st.i hile
  have hkg := G.skip_ge s st.i
  have hsee : seeV s { st with i := G.skip s st.i } = G.pk s (G.skip s st.i) := seeV_ok (st := { st with i := G.skip s st.i }) he0
  obtain ⟨k, hk⟩ : ∃ k, k = G.skip s st.i := ⟨_, rfl⟩
  rw [← hk] at hp hsee hkl hkg ⊢
  have hlt := G.lt_of_pk (s := s) (i := k) (by omega)
  rw [hp] at hsee
  have HK : Hid (k = G.skip s st.i) := hk
  have HD : Hid (st.deep = d) := hd
  clear hk hd
  have h40' : (st.deep : Int) ≠ 40 := by rw [HD.out]; omega
  have h40b : ((st.deep : Int) == 40) = false := by simpa using h40'
  have hdb : st.deep ≤ 100 := by rw [HD.out]; omega
  go_enter Tryz.func146, Tryz.ntmps146
  go_wp2_with (first
    | (go_at_call 111; refine hN.mono ?_; rintro e w3 ⟨v, r, rfl, hr, S3, st3, hR3, hE3, hd3, hev3, hru3, hm⟩; have HQ : Hid _ := And.intro hr (And.intro hE3 (And.intro hd3 (And.intro hev3 (And.intro hru3 hm)))); have hx1 : st3.err = 0 → st3.i ≤ s.size := (by cases r with | ok n j T' => (rw [hm.2]; exact fun _ => (hfn _ hr).2.1) | err c p => exact fun h => absurd h (by rw [hm.1]; exact hm.2.2.1)); have hx2 : st3.i ≤ 100000 := (by cases r with | ok n j T' => (rw [hm.2]; have := (hfn _ hr).2.1; show j ≤ _; omega) | err c p => (have := hm.2.2.2.1; omega)); clear hr hE3 hd3 hev3 hru3 hm)
    | (go_at_call 112; refine (want_both w3 b s S3 st3 41 hR3 hs hx1 hx2).mono ?_; rintro e w4 ⟨rfl, hE4, hR4⟩; clear c0 c1 c2 c3 c4 fr; obtain ⟨c0, c1, c2, c3, c4, fr⟩ := hR4.reads; have c4' : w4.cell? ⟨b, 4, none⟩ = some (.int .i64 ((st.deep : Int) + 1)) := by rw [c4, wantB_deep, HQ.out.2.2.1]; rfl
       clear c4)
    | (go_at_call 80; refine (skip_any w b s S st hR hs hile he0).mono ?_; rw [← HK.out]; rintro e w1 ⟨rfl, hR1, hE1⟩; obtain ⟨c0, c1, c2, c3, c4, fr⟩ := hR1.reads)
    | (go_at_call 107; refine (see_any w1 b s S _ hR1 hs (by show k ≤ _; omega)).mono ?_; rw [hsee]; rintro e w2 ⟨rfl, n2, rfl⟩; have E34 := ((hE1.drewN n2).set hSb (.inl hSb) 1 (.int .i64 ((k : Int) + 1))).set hSb (.inl hSb) 4 (.int .i64 ((st.deep : Int) + 1)); have hR2 := (hR1.drewN n2).inc.setDeep (st.deep + 1); have hP1 : Pre s ({ st with i := k + 1, deep := st.deep + 1 } : St) := ⟨he0, by show k + 1 ≤ _; omega, by show st.T.length ≤ 4 * (k + 1); omega, hwf, henv⟩; have hN := hIH _ S _ hR2 hP1 _hev (by show st.deep + 1 = d + 1; rw [HD.out]); have hfn := fun r (hr : G.R s st.env (.expr []) (st.deep + 1) (k + 1) st.T r) => hr.fine (by omega) hwf (by simp [G.NT.parts]) (by simp [G.NT.ranges]) henv))
  go_ret
  have hR5 := hR4.setDeep st.deep
  have hEall : Evo w S _ S3 := ((E34.trans HQ.out.2.1).trans hE4).set hR4.inS.1 (.inl hSb) 4 (.int .i64 (st.deep : Int))
  obtain ⟨hr, -, q3, q4, q5, q6⟩ := HQ.out
  cases r with
  | ok n j T' =>
    obtain ⟨rfl, rfl⟩ := q6
    have hf := hfn _ hr
    have hjl := hf.2.1
    have hsk := G.skip_le s j hjl
    by_cases h41 : G.pk s (G.skip s j) = 41
    · rw [wantB_yes (st := ({ st with i := j, deep := st.deep + 1, T := T' } : St)) (c := 41) he0 h41] at hR5
      exact ⟨_, _, rfl, G.R.paren hp (by rw [HD.out]; exact h40) hr h41, S3, _, hR5, hEall, rfl, rfl, rfl, rfl, rfl⟩
    · rw [wantB_no (st := ({ st with i := j, deep := st.deep + 1, T := T' } : St)) (c := 41) he0 h41] at hR5
      have h6 := hf.2.2.2.2.2
      simp only [G.NT.sl, G.NT.sr] at h6
      exact ⟨_, _, rfl, G.R.parenForm hp (by rw [HD.out]; exact h40) hr h41, S3, _, hR5, hEall, rfl, rfl, rfl, rfl, rfl, by omega, by show G.skip s j + 1 ≤ _; omega, by show T'.length ≤ _; omega, hf.2.2.2.1.le, by obtain ⟨X, hX⟩ := hf.2.2.2.2.1; show st.T.length ≤ T'.length; rw [hX]; simp⟩
  | err c p =>
    obtain ⟨z1, z2, z3, z4, z5, z6, z7⟩ := q6
    rw [wantB_err (by rw [z1]; exact z3)] at hR5
    exact ⟨_, _, rfl, G.R.parenErr hp (by rw [HD.out]; exact h40) hr, S3, _, hR5, hEall, rfl, q4, q5, z1, z2, z3, by show st3.i + 1 ≤ _; omega, by show st3.T.length ≤ _; omega, z6, z7⟩
theorem atom_any (w : World) (b : Nat) (s : ByteArray) (S : Nat → Prop) (st : St) (d : Nat) (hR : Rd w b s S st) (hs : s.size ≤ 2000) (hP : Pre s st) (hev : st.env.length ≤ 100000) (hd : st.deep = d) (hd40 : d ≤ 40) (hIH : d < 40 → ExprAt b s (d + 1)) (hp : G.atomic (G.pk s (G.skip s st.i)) = true) :
    Calls Tryz.prog 146 #[.pointer (some ⟨b, 0, none⟩)] w fun e w' => ∃ v r, e = .returned (.int .i64 v) ∧ G.R s st.env .atom st.deep (G.skip s st.i) st.T r ∧ ReadPost w b s S st r (10 * (41 - d) + 5) v w' := by
  simp only [G.atomic, decide_eq_true_eq] at hp
  rcases hp with h | h | h | h | h
  · by_cases h40 : d = 40
    · exact atom_deep w b s S st d hR hs hP hev hd hd40 h h40
    · exact atom_paren w b s S st d hR hs hP hev hd hd40 h h40 (hIH (by omega))
  · exact atom_dot w b s S st d hR hs hP hev hd hd40 h
  · exact atom_name w b s S st d hR hs hP hev hd hd40 h
  · exact atom_quote w b s S st d hR hs hP hev hd hd40 h
  · exact atom_set w b s S st d hR hs hP hev hd hd40 h
end Rf
end Go.Proofs.YtpgcidpghmoibaaGreatDoor
