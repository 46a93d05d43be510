/-
  THE REFERENCE's READER: the walks of escape, char: a char of a quote or a set as the form has it, or the error at its place. Conditions: the source has at most 2000 bytes; there was no error ahead.
  THE REFERENCE's READER: the walks of escape, char: a char of a quote or a set as the form has it, or the error at its place. Conditions: the source has at most 2000 bytes; there was no error ahead.
  THE REFERENCE's READER: the walks of escape, char: a char of a quote or a set as the form has it, or the error at its place. Conditions: the source has at most 2000 bytes; there was no error ahead.
  THE REFERENCE's READER: the walks of escape, char: a char of a quote or a set as the form has it, or the error at its place. Conditions: the source has at most 2000 bytes; there was no error ahead.
  THE REFERENCE's READER: the walks of escape, char: a char of a quote or a set as the form has it, or the error at its place. Conditions: the source has at most 2000 bytes; there was no error ahead.
  THE REFERENCE's READER: the walk of char: a char as the form has it, or the error at its place. Conditions: the source has at most 2000 bytes; there was no error ahead.
-/
import Derived.Test.YtpgcidpghmoibaaGreatDoorK11
import Derived.Test.YtpgcidpghmoibaaGreatDoorK10
namespace Go.Proofs.YtpgcidpghmoibaaGreatDoor
namespace Rf
open Go.RowKit
open G (PNode)
def CharPost (w : World) (b : Nat) (s : ByteArray) (S : Nat → Prop) (st : St) (r : Option (Nat × Nat)) (e : Ending) (w' : World) : Prop :=
  Evo w S w' S ∧ match r with
  | some (x, j) => e = .returned (.int .i64 (x : Int)) ∧ Rd w' b s S { st with i := j }
  | none => ∃ x m : Nat, e = .returned (.int .i64 (x : Int)) ∧ m ≤ st.i + 10 ∧ Rd w' b s S { st with i := m, err := 2, place := st.i }
set_option maxRecDepth 100000 in
set_option maxHeartbeats 2000000 in
theorem escape_self (w : World) (b : Nat) (s : ByteArray) (S : Nat → Prop) (st : St) (hR : Rd w b s S st) (hs : s.size ≤ 2000) (hi : st.i < s.size) (h0 : st.err = 0)
    (hself : G.self (G.pk s (st.i + 1)) = true) :
    Calls Tryz.prog 164 #[.pointer (some ⟨b, 0, none⟩)] w fun e w' => CharPost w b s S st (G.esc s st.i) e w' := by
  obtain ⟨hSb, _⟩ := hR.inS
  obtain ⟨c0, c1, c2, c3, c4, fr⟩ := hR.reads
  have hsee : seeV s { st with i := st.i + 1 } = G.pk s (st.i + 1) := seeV_ok (st := { st with i := st.i + 1 }) h0
  have R2 : ∀ n, Rd (((w.setCell ⟨b, 1, none⟩ (.int .i64 ((st.i : Int) + 1))).drewN n).setCell ⟨b, 1, none⟩ (.int .i64 ((st.i : Int) + 1 + 1))) b s S { st with i := st.i + 2 } := fun n => (hR.inc.drewN n).inc
  have E2 : ∀ n, Evo w S (((w.setCell ⟨b, 1, none⟩ (.int .i64 ((st.i : Int) + 1))).drewN n).setCell ⟨b, 1, none⟩ (.int .i64 ((st.i : Int) + 1 + 1))) S := fun n => (((Evo.refl w S).set hSb (.inl hSb) _ _).drewN n).set hSb (.inl hSb) _ _
  have HE : Hid _ := And.intro R2 E2
  clear R2 E2
  have he : G.esc s st.i = some ((G.pk s (st.i + 1)).toNat, st.i + 2) := by simp [G.esc, hself]
  rw [he]
  have hc := hself
  simp only [G.self, decide_eq_true_eq] at hc
  clear hself he
  generalize G.pk s (st.i + 1) = c at hc hsee ⊢
  rcases hc with rfl | rfl | rfl | rfl | rfl | rfl
  all_goals
    go_enter Tryz.func164, Tryz.ntmps164
    go_wp2_with (go_at_call 107; refine (see_any _ b s S _ hR.inc hs (by show st.i + 1 ≤ _; omega)).mono ?_; rw [hsee]; rintro e w' ⟨rfl, n2, rfl⟩)
    go_ret
    exact ⟨HE.out.2 _, rfl, HE.out.1 _⟩
set_option maxRecDepth 100000 in
set_option maxHeartbeats 2000000 in
theorem escape_n (w : World) (b : Nat) (s : ByteArray) (S : Nat → Prop) (st : St) (hR : Rd w b s S st) (hs : s.size ≤ 2000) (hi : st.i < s.size) (h0 : st.err = 0)
    (hself : ¬ G.self (G.pk s (st.i + 1)) = true) (hn : G.pk s (st.i + 1) = 110) :
    Calls Tryz.prog 164 #[.pointer (some ⟨b, 0, none⟩)] w fun e w' => CharPost w b s S st (G.esc s st.i) e w' := by
  obtain ⟨hSb, _⟩ := hR.inS
  obtain ⟨c0, c1, c2, c3, c4, fr⟩ := hR.reads
  have hsee : seeV s { st with i := st.i + 1 } = G.pk s (st.i + 1) := seeV_ok (st := { st with i := st.i + 1 }) h0
  have R2 : ∀ n, Rd (((w.setCell ⟨b, 1, none⟩ (.int .i64 ((st.i : Int) + 1))).drewN n).setCell ⟨b, 1, none⟩ (.int .i64 ((st.i : Int) + 1 + 1))) b s S { st with i := st.i + 2 } := fun n => (hR.inc.drewN n).inc
  have E2 : ∀ n, Evo w S (((w.setCell ⟨b, 1, none⟩ (.int .i64 ((st.i : Int) + 1))).drewN n).setCell ⟨b, 1, none⟩ (.int .i64 ((st.i : Int) + 1 + 1))) S := fun n => (((Evo.refl w S).set hSb (.inl hSb) _ _).drewN n).set hSb (.inl hSb) _ _
  have HE : Hid _ := And.intro R2 E2
  clear R2 E2
  have he : G.esc s st.i = some (10, st.i + 2) := by unfold G.esc; rw [if_neg hself, if_pos hn]
  rw [he]
  rw [hn] at hsee
  clear hself he
  go_enter Tryz.func164, Tryz.ntmps164
  go_wp2_with (go_at_call 107; refine (see_any _ b s S _ hR.inc hs (by show st.i + 1 ≤ _; omega)).mono ?_; rw [hsee]; rintro e w' ⟨rfl, n2, rfl⟩)
  go_ret
  exact ⟨HE.out.2 _, rfl, HE.out.1 _⟩
set_option maxRecDepth 100000 in
set_option maxHeartbeats 2000000 in
theorem escape_t (w : World) (b : Nat) (s : ByteArray) (S : Nat → Prop) (st : St) (hR : Rd w b s S st) (hs : s.size ≤ 2000) (hi : st.i < s.size) (h0 : st.err = 0)
    (hself : ¬ G.self (G.pk s (st.i + 1)) = true) (hn : ¬ G.pk s (st.i + 1) = 110) (ht : G.pk s (st.i + 1) = 116) :
    Calls Tryz.prog 164 #[.pointer (some ⟨b, 0, none⟩)] w fun e w' => CharPost w b s S st (G.esc s st.i) e w' := by
  obtain ⟨hSb, _⟩ := hR.inS
  obtain ⟨c0, c1, c2, c3, c4, fr⟩ := hR.reads
  have hsee : seeV s { st with i := st.i + 1 } = G.pk s (st.i + 1) := seeV_ok (st := { st with i := st.i + 1 }) h0
  have R2 : ∀ n, Rd (((w.setCell ⟨b, 1, none⟩ (.int .i64 ((st.i : Int) + 1))).drewN n).setCell ⟨b, 1, none⟩ (.int .i64 ((st.i : Int) + 1 + 1))) b s S { st with i := st.i + 2 } := fun n => (hR.inc.drewN n).inc
  have E2 : ∀ n, Evo w S (((w.setCell ⟨b, 1, none⟩ (.int .i64 ((st.i : Int) + 1))).drewN n).setCell ⟨b, 1, none⟩ (.int .i64 ((st.i : Int) + 1 + 1))) S := fun n => (((Evo.refl w S).set hSb (.inl hSb) _ _).drewN n).set hSb (.inl hSb) _ _
  have HE : Hid _ := And.intro R2 E2
  clear R2 E2
  have he : G.esc s st.i = some (9, st.i + 2) := by unfold G.esc; rw [if_neg hself, if_neg hn, if_pos ht]
  rw [he]
  rw [ht] at hsee
  clear hself he hn
  go_enter Tryz.func164, Tryz.ntmps164
  go_wp2_with (go_at_call 107; refine (see_any _ b s S _ hR.inc hs (by show st.i + 1 ≤ _; omega)).mono ?_; rw [hsee]; rintro e w' ⟨rfl, n2, rfl⟩)
  go_ret
  exact ⟨HE.out.2 _, rfl, HE.out.1 _⟩
end Rf
end Go.Proofs.YtpgcidpghmoibaaGreatDoor

namespace Go.Proofs.YtpgcidpghmoibaaGreatDoor
namespace Rf
open Go.RowKit
open G (PNode)
set_option maxRecDepth 100000 in
set_option maxHeartbeats 2000000 in
theorem escape_u_ok (w : World) (b : Nat) (s : ByteArray) (S : Nat → Prop) (st : St) (hR : Rd w b s S st) (hs : s.size ≤ 2000) (_hi : st.i < s.size) (h0 : st.err = 0)
    (hself : ¬ G.self (G.pk s (st.i + 1)) = true) (hn : ¬ G.pk s (st.i + 1) = 110) (ht : ¬ G.pk s (st.i + 1) = 116) (hu : G.pk s (st.i + 1) = 117) (h6 : st.i + 6 ≤ s.size) (hok : G.hexs s (st.i + 2) = true ∧ (G.hexv s (st.i + 2) < 55296 ∨ 57344 ≤ G.hexv s (st.i + 2))) :
    Calls Tryz.prog 164 #[.pointer (some ⟨b, 0, none⟩)] w fun e w' => CharPost w b s S st (G.esc s st.i) e w' := by
  obtain ⟨hSb, _⟩ := hR.inS
  obtain ⟨c0, c1, c2, c3, c4, fr⟩ := hR.reads
  have hsee : seeV s { st with i := st.i + 1 } = G.pk s (st.i + 1) := seeV_ok (st := { st with i := st.i + 1 }) h0
  have R2 : ∀ n, Rd (((w.setCell ⟨b, 1, none⟩ (.int .i64 ((st.i : Int) + 1))).drewN n).setCell ⟨b, 1, none⟩ (.int .i64 ((st.i : Int) + 1 + 1))) b s S { st with i := st.i + 2 } := fun n => (hR.inc.drewN n).inc
  have E2 : ∀ n, Evo w S (((w.setCell ⟨b, 1, none⟩ (.int .i64 ((st.i : Int) + 1))).drewN n).setCell ⟨b, 1, none⟩ (.int .i64 ((st.i : Int) + 1 + 1))) S := fun n => (((Evo.refl w S).set hSb (.inl hSb) _ _).drewN n).set hSb (.inl hSb) _ _
  have HE : Hid _ := And.intro R2 E2
  clear R2 E2
  rw [hu] at hsee
  have hv := hexV_extract s (st.i + 2) (by omega)
  have he : G.esc s st.i = some (G.hexv s (st.i + 2), st.i + 6) := by unfold G.esc; rw [if_neg hself, if_neg hn, if_neg ht, if_pos ⟨hu, h6, hok.1, hok.2⟩]
  rw [he]
  rw [if_pos hok.1] at hv
  have hvb := G.hexv_le s _ hok.1
  have hv2 := hok.2
  clear hself he hn ht hok
  generalize G.hexv s (st.i + 2) = v at hv hvb hv2 ⊢
  go_enter Tryz.func164, Tryz.ntmps164
  go_wp2_with (go_at_call 107; refine (see_any _ b s S _ hR.inc hs (by show st.i + 1 ≤ _; omega)).mono ?_; rw [hsee]; rintro e w' ⟨rfl, n2, rfl⟩)
  go_quiet (fail)
  go_wp2
  have g1 : (0 : Int) ≤ (st.i : Int) + 1 + 1 := by omega
  have g2 : (st.i : Int) + 1 + 1 ≤ (st.i : Int) + 1 + 1 + 4 := by omega
  have g3 : (st.i : Int) + 1 + 1 + 4 ≤ (s.size : Int) := by omega
  refine wp_region_quiet_lit (by kernel_rfl) (by kernel_rfl) ?_
  repeat (first
    | go_big_quiet_step ((go_at_call 172; refine (hex_any _ _ (by rw [ByteArray.size_extract]; omega)).mono ?_; rintro e w' ⟨rfl, rfl⟩; exact ⟨rfl, _, rfl⟩))
    | quiet_step ((go_at_call 172; refine (hex_any _ _ (by rw [ByteArray.size_extract]; omega)).mono ?_; rintro e w' ⟨rfl, rfl⟩; exact ⟨rfl, _, rfl⟩)))
  refine wpQuiet_nil ?_
  intro _ hw'
  obtain ⟨nq, hw''⟩ := hw'
  subst hw''
  rw [show st.i + 1 + 1 = st.i + 2 from rfl, hv]
  go_wp2
  all_goals
    go_ret
    exact ⟨((HE.out.2 _).drewN _).set hSb (.inl hSb) _ _, rfl, ((HE.out.1 _).drewN _).setI (st.i + 6)⟩
end Rf
end Go.Proofs.YtpgcidpghmoibaaGreatDoor

namespace Go.Proofs.YtpgcidpghmoibaaGreatDoor
namespace Rf
open Go.RowKit
open G (PNode)
set_option maxRecDepth 100000 in
set_option maxHeartbeats 2000000 in
theorem escape_u_bad (w : World) (b : Nat) (s : ByteArray) (S : Nat → Prop) (st : St) (hR : Rd w b s S st) (hs : s.size ≤ 2000) (_hi : st.i < s.size) (h0 : st.err = 0)
    (hself : ¬ G.self (G.pk s (st.i + 1)) = true) (hn : ¬ G.pk s (st.i + 1) = 110) (ht : ¬ G.pk s (st.i + 1) = 116) (hu : G.pk s (st.i + 1) = 117) (h6 : st.i + 6 ≤ s.size) (hok : ¬ (G.hexs s (st.i + 2) = true ∧ (G.hexv s (st.i + 2) < 55296 ∨ 57344 ≤ G.hexv s (st.i + 2)))) :
    Calls Tryz.prog 164 #[.pointer (some ⟨b, 0, none⟩)] w fun e w' => CharPost w b s S st (G.esc s st.i) e w' := by
  obtain ⟨hSb, _⟩ := hR.inS
  obtain ⟨c0, c1, c2, c3, c4, fr⟩ := hR.reads
  have hsee : seeV s { st with i := st.i + 1 } = G.pk s (st.i + 1) := seeV_ok (st := { st with i := st.i + 1 }) h0
  have R2 : ∀ n, Rd (((w.setCell ⟨b, 1, none⟩ (.int .i64 ((st.i : Int) + 1))).drewN n).setCell ⟨b, 1, none⟩ (.int .i64 ((st.i : Int) + 1 + 1))) b s S { st with i := st.i + 2 } := fun n => (hR.inc.drewN n).inc
  have E2 : ∀ n, Evo w S (((w.setCell ⟨b, 1, none⟩ (.int .i64 ((st.i : Int) + 1))).drewN n).setCell ⟨b, 1, none⟩ (.int .i64 ((st.i : Int) + 1 + 1))) S := fun n => (((Evo.refl w S).set hSb (.inl hSb) _ _).drewN n).set hSb (.inl hSb) _ _
  have HE : Hid _ := And.intro R2 E2
  clear R2 E2
  rw [hu] at hsee
  have hv := hexV_extract s (st.i + 2) (by omega)
  have he : G.esc s st.i = none := by unfold G.esc; rw [if_neg hself, if_neg hn, if_neg ht, if_neg (fun h => hok h.2.2)]
  rw [he]
  have hneg : ∃ v : Int, hexV (s.extract (st.i + 2) (st.i + 2 + 4)) = v ∧ -1 ≤ v ∧ v ≤ 65535 ∧ (v < 0 ∨ 55296 ≤ v ∧ v < 57344) := by
    rw [hv]
    by_cases hx : G.hexs s (st.i + 2) = true
    · rw [if_pos hx]
      have := G.hexv_le s _ hx
      exact ⟨_, rfl, by omega, by omega, by have := hok; simp only [hx, true_and] at this; omega⟩
    · rw [if_neg hx]
      exact ⟨_, rfl, by omega, by omega, by omega⟩
  obtain ⟨v, hv, hv1, hv2, hv3⟩ := hneg
  clear hself he hn ht hok
  go_enter Tryz.func164, Tryz.ntmps164
  go_wp2_with (go_at_call 107; refine (see_any _ b s S _ hR.inc hs (by show st.i + 1 ≤ _; omega)).mono ?_; rw [hsee]; rintro e w' ⟨rfl, n2, rfl⟩)
  go_quiet (fail)
  go_wp2
  have g1 : (0 : Int) ≤ (st.i : Int) + 1 + 1 := by omega
  have g2 : (st.i : Int) + 1 + 1 ≤ (st.i : Int) + 1 + 1 + 4 := by omega
  have g3 : (st.i : Int) + 1 + 1 + 4 ≤ (s.size : Int) := by omega
  refine wp_region_quiet_lit (by kernel_rfl) (by kernel_rfl) ?_
  repeat (first
    | go_big_quiet_step ((go_at_call 172; refine (hex_any _ _ (by rw [ByteArray.size_extract]; omega)).mono ?_; rintro e w' ⟨rfl, rfl⟩; exact ⟨rfl, _, rfl⟩))
    | quiet_step ((go_at_call 172; refine (hex_any _ _ (by rw [ByteArray.size_extract]; omega)).mono ?_; rintro e w' ⟨rfl, rfl⟩; exact ⟨rfl, _, rfl⟩)))
  refine wpQuiet_nil ?_
  intro _ hw'
  obtain ⟨nq, hw''⟩ := hw'
  subst hw''
  rw [show st.i + 1 + 1 = st.i + 2 from rfl, hv]
  rcases hv3 with hv3 | ⟨hv3, hv4⟩
  all_goals
    go_wp2_with (go_at_call 110; refine (fail_any _ b s S _ 2 st.i (((HE.out.1 _).drewN _).setI (st.i + 6))).mono ?_; rintro e w' ⟨rfl, hRf, hEf⟩)
    go_ret
    rw [failed, if_pos h0] at hRf
    exact ⟨(((HE.out.2 _).drewN _).set hSb (.inl hSb) _ _).trans hEf, 0, st.i + 6, rfl, by omega, hRf⟩
end Rf
end Go.Proofs.YtpgcidpghmoibaaGreatDoor

namespace Go.Proofs.YtpgcidpghmoibaaGreatDoor
namespace Rf
open Go.RowKit
open G (PNode)
set_option maxRecDepth 100000 in
set_option maxHeartbeats 2000000 in
theorem escape_u_short (w : World) (b : Nat) (s : ByteArray) (S : Nat → Prop) (st : St) (hR : Rd w b s S st) (hs : s.size ≤ 2000) (hi : st.i < s.size) (h0 : st.err = 0)
    (hself : ¬ G.self (G.pk s (st.i + 1)) = true) (hn : ¬ G.pk s (st.i + 1) = 110) (ht : ¬ G.pk s (st.i + 1) = 116) (hu : G.pk s (st.i + 1) = 117) (h6 : ¬ st.i + 6 ≤ s.size) :
    Calls Tryz.prog 164 #[.pointer (some ⟨b, 0, none⟩)] w fun e w' => CharPost w b s S st (G.esc s st.i) e w' := by
  obtain ⟨hSb, _⟩ := hR.inS
  obtain ⟨c0, c1, c2, c3, c4, fr⟩ := hR.reads
  have hsee : seeV s { st with i := st.i + 1 } = G.pk s (st.i + 1) := seeV_ok (st := { st with i := st.i + 1 }) h0
  have R2 : ∀ n, Rd (((w.setCell ⟨b, 1, none⟩ (.int .i64 ((st.i : Int) + 1))).drewN n).setCell ⟨b, 1, none⟩ (.int .i64 ((st.i : Int) + 1 + 1))) b s S { st with i := st.i + 2 } := fun n => (hR.inc.drewN n).inc
  have E2 : ∀ n, Evo w S (((w.setCell ⟨b, 1, none⟩ (.int .i64 ((st.i : Int) + 1))).drewN n).setCell ⟨b, 1, none⟩ (.int .i64 ((st.i : Int) + 1 + 1))) S := fun n => (((Evo.refl w S).set hSb (.inl hSb) _ _).drewN n).set hSb (.inl hSb) _ _
  have HE : Hid _ := And.intro R2 E2
  clear R2 E2
  rw [hu] at hsee
  have he : G.esc s st.i = none := by unfold G.esc; rw [if_neg hself, if_neg hn, if_neg ht, if_neg (fun h => h6 h.2.1)]
  rw [he]
  clear hself he hn ht
  go_enter Tryz.func164, Tryz.ntmps164
  go_wp2_with (go_at_call 107; refine (see_any _ b s S _ hR.inc hs (by show st.i + 1 ≤ _; omega)).mono ?_; rw [hsee]; rintro e w' ⟨rfl, n2, rfl⟩)
  go_quiet (fail)
  go_wp2_with (go_at_call 110; refine (fail_any _ b s S _ 2 st.i ((HE.out.1 _).drewN _)).mono ?_; rintro e w' ⟨rfl, hRf, hEf⟩)
  go_ret
  rw [failed, if_pos h0] at hRf
  exact ⟨((HE.out.2 _).drewN _).trans hEf, 0, st.i + 2, rfl, by omega, hRf⟩
set_option maxRecDepth 100000 in
set_option maxHeartbeats 2000000 in
theorem escape_other (w : World) (b : Nat) (s : ByteArray) (S : Nat → Prop) (st : St) (hR : Rd w b s S st) (hs : s.size ≤ 2000) (hi : st.i < s.size) (h0 : st.err = 0)
    (hself : ¬ G.self (G.pk s (st.i + 1)) = true) (hn : ¬ G.pk s (st.i + 1) = 110) (ht : ¬ G.pk s (st.i + 1) = 116) (hu : ¬ G.pk s (st.i + 1) = 117) :
    Calls Tryz.prog 164 #[.pointer (some ⟨b, 0, none⟩)] w fun e w' => CharPost w b s S st (G.esc s st.i) e w' := by
  obtain ⟨hSb, _⟩ := hR.inS
  obtain ⟨c0, c1, c2, c3, c4, fr⟩ := hR.reads
  have hsee : seeV s { st with i := st.i + 1 } = G.pk s (st.i + 1) := seeV_ok (st := { st with i := st.i + 1 }) h0
  have R2 : ∀ n, Rd (((w.setCell ⟨b, 1, none⟩ (.int .i64 ((st.i : Int) + 1))).drewN n).setCell ⟨b, 1, none⟩ (.int .i64 ((st.i : Int) + 1 + 1))) b s S { st with i := st.i + 2 } := fun n => (hR.inc.drewN n).inc
  have E2 : ∀ n, Evo w S (((w.setCell ⟨b, 1, none⟩ (.int .i64 ((st.i : Int) + 1))).drewN n).setCell ⟨b, 1, none⟩ (.int .i64 ((st.i : Int) + 1 + 1))) S := fun n => (((Evo.refl w S).set hSb (.inl hSb) _ _).drewN n).set hSb (.inl hSb) _ _
  have HE : Hid _ := And.intro R2 E2
  clear R2 E2
  have hns : ∀ x : Int, x = 39 ∨ x = 92 ∨ x = 91 ∨ x = 93 ∨ x = 45 ∨ x = 94 → G.pk s (st.i + 1) ≠ x := by
    intro x hx e
    exact hself (by simp only [G.self, decide_eq_true_eq]; omega)
  have he : G.esc s st.i = none := by unfold G.esc; rw [if_neg hself, if_neg hn, if_neg ht, if_neg (fun h => hu h.1)]
  rw [he]
  have n1 := hns 39 (by omega)
  have n2 := hns 92 (by omega)
  have n3 := hns 91 (by omega)
  have n4 := hns 93 (by omega)
  have n5 := hns 45 (by omega)
  have n6 := hns 94 (by omega)
  clear hself he hns
  generalize G.pk s (st.i + 1) = c at n1 n2 n3 n4 n5 n6 hn ht hu hsee
  go_enter Tryz.func164, Tryz.ntmps164
  go_wp2_with (first
    | (go_at_call 107; refine (see_any _ b s S _ hR.inc hs (by show st.i + 1 ≤ _; omega)).mono ?_; rw [hsee]; rintro e w' ⟨rfl, n7, rfl⟩)
    | (go_at_call 110; refine (fail_any _ b s S _ 2 st.i (HE.out.1 _)).mono ?_; rintro e w' ⟨rfl, hRf, hEf⟩))
  go_ret
  rw [failed, if_pos h0] at hRf
  exact ⟨(HE.out.2 _).trans hEf, 0, st.i + 2, rfl, by omega, hRf⟩
end Rf
end Go.Proofs.YtpgcidpghmoibaaGreatDoor

namespace Go.Proofs.YtpgcidpghmoibaaGreatDoor
namespace Rf
open Go.RowKit
open G (PNode)
theorem escape_any (w : World) (b : Nat) (s : ByteArray) (S : Nat → Prop) (st : St) (hR : Rd w b s S st) (hs : s.size ≤ 2000) (hi : st.i < s.size) (h0 : st.err = 0) :
    Calls Tryz.prog 164 #[.pointer (some ⟨b, 0, none⟩)] w fun e w' => CharPost w b s S st (G.esc s st.i) e w' := by
  by_cases hself : G.self (G.pk s (st.i + 1)) = true
  · exact escape_self w b s S st hR hs hi h0 hself
  by_cases hn : G.pk s (st.i + 1) = 110
  · exact escape_n w b s S st hR hs hi h0 hself hn
  by_cases ht : G.pk s (st.i + 1) = 116
  · exact escape_t w b s S st hR hs hi h0 hself hn ht
  by_cases hu : G.pk s (st.i + 1) = 117
  · by_cases h6 : st.i + 6 ≤ s.size
    · by_cases hok : G.hexs s (st.i + 2) = true ∧ (G.hexv s (st.i + 2) < 55296 ∨ 57344 ≤ G.hexv s (st.i + 2))
      · exact escape_u_ok w b s S st hR hs hi h0 hself hn ht hu h6 hok
      · exact escape_u_bad w b s S st hR hs hi h0 hself hn ht hu h6 hok
    · exact escape_u_short w b s S st hR hs hi h0 hself hn ht hu h6
  · exact escape_other w b s S st hR hs hi h0 hself hn ht hu
end Rf
end Go.Proofs.YtpgcidpghmoibaaGreatDoor

namespace Go.Proofs.YtpgcidpghmoibaaGreatDoor
namespace Rf
open Go.RowKit
open G (PNode)
theorem CharPost.ret {w w' : World} {b : Nat} {s : ByteArray} {S : Nat → Prop} {st : St} {r : Option (Nat × Nat)} {e : Ending} (h : CharPost w b s S st r e w') : ∃ v : Nat, e = .returned (.int .i64 (v : Int)) := by
  obtain ⟨_, h⟩ := h
  match r, h with
  | some (x, j), h => exact ⟨x, h.1⟩
  | none, ⟨x, m, h, _⟩ => exact ⟨x, h⟩
theorem CharPost.after {w w1 w' : World} {b : Nat} {s : ByteArray} {S : Nat → Prop} {st : St} {r : Option (Nat × Nat)} {e : Ending} (h : CharPost w1 b s S st r e w') (he : Evo w S w1 S) : CharPost w b s S st r e w' := ⟨he.trans h.1, h.2⟩
theorem well_eq (s : ByteArray) (i : Nat) : wellAt s i = G.well s i := rfl
set_option maxRecDepth 100000 in
set_option maxHeartbeats 2000000 in
theorem char_any (w : World) (b : Nat) (s : ByteArray) (S : Nat → Prop) (st : St) (x y : Nat) (hR : Rd w b s S st) (hs : s.size ≤ 2000) (hi : st.i ≤ s.size) (h0 : st.err = 0) :
    Calls Tryz.prog 158 #[.pointer (some ⟨b, 0, none⟩), .int .i64 (x : Int), .int .i64 (y : Int)] w fun e w' => CharPost w b s S st (G.chr s x y st.i) e w' := by
  obtain ⟨hSb, _⟩ := hR.inS
  obtain ⟨c0, c1, c2, c3, c4, fr⟩ := hR.reads
  have hsee : seeV s st = G.pk s st.i := seeV_ok h0
  have hfa : failed st 2 st.i = { st with err := 2, place := st.i } := by rw [failed, if_pos h0]
  have HF : Hid _ := hfa
  clear hfa
  by_cases hbad : G.pk s st.i < 0 ∨ G.pk s st.i = x ∨ G.pk s st.i = y
  · have hc : G.chr s x y st.i = none := by unfold G.chr; rw [if_pos hbad]
    rw [hc]
    clear hc
    have hcase : G.pk s st.i < 0 ∨ (¬ G.pk s st.i < 0 ∧ G.pk s st.i = x) ∨ (¬ G.pk s st.i < 0 ∧ ¬ G.pk s st.i = x ∧ G.pk s st.i = y) := by omega
    clear hbad
    generalize G.pk s st.i = p at hcase hsee
    rcases hcase with h1 | ⟨h1, h2⟩ | ⟨h1, h2, h3⟩
    all_goals
      go_enter Tryz.func158, Tryz.ntmps158
      go_wp2_with (first
        | (go_at_call 107; refine (see_any _ b s S st hR hs (by omega)).mono ?_; rw [hsee]; rintro e w' ⟨rfl, n2, rfl⟩)
        | (go_at_call 110; refine (fail_any _ b s S st 2 st.i (hR.drewN _)).mono ?_; rw [HF.out]; rintro e w3 ⟨rfl, hR3, hE3⟩))
      go_ret
      exact ⟨((Evo.refl w S).drewN _).trans hE3, 0, st.i, rfl, by omega, hR3⟩
  · have hlt := G.lt_of_pk (s := s) (i := st.i) (by omega)
    have n1 : ¬ G.pk s st.i < 0 := by omega
    have n2 : (G.pk s st.i == (x : Int)) = false := by simp; omega
    have n3 : (G.pk s st.i == (y : Int)) = false := by simp; omega
    by_cases h92 : G.pk s st.i = 92
    · have hc : G.chr s x y st.i = G.esc s st.i := by unfold G.chr; rw [if_neg hbad, if_pos h92]
      rw [hc]
      clear hc hbad
      rw [h92] at n1 n2 n3 hsee
      go_enter Tryz.func158, Tryz.ntmps158
      go_wp2_with (first
        | (go_at_call 107; refine (see_any _ b s S st hR hs (by omega)).mono ?_; rw [hsee]; rintro e w' ⟨rfl, n4, rfl⟩)
        | (go_at_call 164; refine (escape_any _ b s S st (hR.drewN _) hs hlt h0).mono ?_; intro e w3 hP; obtain ⟨v, rfl⟩ := hP.ret; have HP : Hid _ := hP; clear hP))
      go_ret
      exact CharPost.after HP.out ((Evo.refl w S).drewN _)
    · have hnx := next_any s st.i
      by_cases hw : G.well s st.i = true
      · have hc : G.chr s x y st.i = some ((Utf8.decode s st.i).1, st.i + (Utf8.decode s st.i).2) := by unfold G.chr; rw [if_neg hbad, if_neg h92, if_pos hw]
        rw [hc]
        have hwd := U.width s st.i hlt
        have hww : wellAt s st.i = true := hw
        clear hc hbad hw
        generalize Utf8.decode s st.i = de at *
        generalize G.pk s st.i = p at *
        go_enter Tryz.func158, Tryz.ntmps158
        go_wp2_with (go_at_call 107; refine (see_any _ b s S st hR hs (by omega)).mono ?_; rw [hsee]; rintro e w' ⟨rfl, n4, rfl⟩)
        go_quiet ((go_at_call 118; refine (hnx _ (by omega) hlt).mono ?_; rw [hww]; rintro e w' ⟨rfl, rfl⟩; exact ⟨rfl, _, rfl⟩))
        go_wp2
        go_ret
        exact ⟨((Evo.refl w S).drewN _).set hSb (.inl hSb) _ _, rfl, (hR.drewN _).setI (st.i + de.2)⟩
      · have hc : G.chr s x y st.i = none := by unfold G.chr; rw [if_neg hbad, if_neg h92, if_neg hw]
        rw [hc]
        have hwd := U.width s st.i hlt
        have hru := U.rune_le s st.i
        have hd1 : (Utf8.decode s st.i).2 ≤ 4 := by
          rw [U.decode_eq]
          split
          · simp
          · split
            · split <;> simp
            · split
              · split <;> simp
              · split
                · split <;> simp
                · simp
        have hww : wellAt s st.i = false := by rw [well_eq]; simpa using hw
        clear hc hbad hw
        generalize Utf8.decode s st.i = de at *
        generalize G.pk s st.i = p at *
        go_enter Tryz.func158, Tryz.ntmps158
        go_wp2_with (go_at_call 107; refine (see_any _ b s S st hR hs (by omega)).mono ?_; rw [hsee]; rintro e w' ⟨rfl, n4, rfl⟩)
        go_quiet ((go_at_call 118; refine (hnx _ (by omega) hlt).mono ?_; rw [hww]; rintro e w' ⟨rfl, rfl⟩; exact ⟨rfl, _, rfl⟩))
        go_wp2_with (go_at_call 110; refine (fail_any _ b s S st 2 st.i (hR.drewN _)).mono ?_; rw [HF.out]; rintro e w3 ⟨rfl, hR3, hE3⟩; clear c0 c1 c2 c3 c4 fr; obtain ⟨c0, c1, c2, c3, c4, fr⟩ := hR3.reads)
        go_ret
        exact ⟨(((Evo.refl w S).drewN _).trans hE3).set hSb (.inl hSb) _ _, de.1, st.i + de.2, rfl, by omega, hR3.setI (st.i + de.2)⟩
end Rf
end Go.Proofs.YtpgcidpghmoibaaGreatDoor
