/-
  The statement Units: for every text the program's Units answers the runes of the text's units and where each begins (or the error of a text of more than 1000 bytes, and empty lists), asked twice alike, and its lists are new memory. No condition.
-/
import Derived.Test.YtpgcidpghmoibaaBUnitsW
import Derived.Test.YtpgcidpghmoibaaLooksW
import Derived.ProofKit
import Derived.OpenShut
import Derived.ShutString
namespace Go.Proofs.Ytpgcidpghmoibaa
open Go.ChangeShapes Go.WideShapes Go.ChangeAt Go.RowKit
open Go.ChangeMaps (open_string shut_string)

/-- The text of two units. -/
theorem twoUnits : U.units ⟨#[97, 255]⟩ = [(97, 0), (65533, 1)] := by kernel_rfl

set_option maxRecDepth 100000 in
set_option maxHeartbeats 2000000 in
theorem units_law (s : ByteArray) (w : World) (hs : s.size ≤ maxLen) :
    Calls Try.prog 3 #[.string s] w fun e w' => e = .returned (.bool true) ∧ Below w.heap.size w w' := by
  go_enter Try.func3, Try.ntmps3
  go_wp2_with fail
  refine (units_short ⟨#[97, 255]⟩ _ (by decide)).mono ?_
  rintro r w1 ⟨v1, v2, rfl, o1, o2, hb1⟩
  rw [twoUnits] at o1 o2
  obtain ⟨g1, c1, e1, _⟩ := o1.form (by decide)
  obtain ⟨g2, c2, e2, _⟩ := o2.form (by decide)
  subst e1
  subst e2
  have k1 : w1.cell? ⟨g1, 0, none⟩ = some (.int .i32 97) := own_cell o1 rfl
  have k2 : w1.cell? ⟨g1, 1, none⟩ = some (.int .i32 65533) := own_cell o1 rfl
  have k3 : w1.cell? ⟨g2, 1, none⟩ = some (.int .i64 1) := own_cell o2 rfl
  have B1 : Book w1 w.heap.size (fun k => w.heap.size ≤ k) 0 := (book_new w (fun k => w.heap.size ≤ k) (Nat.le_refl _)).below hb1
  have hb1' : Below w.heap.size w w1 := ((Below.refl _ _).alloc (Nat.le_refl _) _).trans (hb1.mono (by simp))
  clear o1 o2 hb1
  go_wp2_with fail
  refine (bunits_any s w1 w.heap.size _ 0 B1 (by decide) hs).mono ?_
  rintro r w2 ⟨rfl, B2, K2⟩
  have hb2 : Below w.heap.size w w2 := hb1'.trans (K2.below hb1'.size (fun k hk => by omega))
  go_wp2_with fail
  refine (looks_any w2 w.heap.size _ 4 B2 (by decide)).mono ?_
  rintro r w3 ⟨rfl, hb3⟩
  go_wp2
  go_ret
  exact ⟨rfl, hb2.trans (hb3.mono hb2.size)⟩

theorem ownU : ownKnob Try.prog.godebug = none := by kernel_rfl

set_option maxRecDepth 100000 in
theorem units_lifted (os : Os) (started : os.Started) (H : Type) (enc : TypeId × Value → H) :
    ReturnsInHanded {} Try.checked os 3 .any (Rows.unitsSpec.pre6 enc Try.prog Try.f3 Rows.unitsRow.domain false) (Rows.unitsSpec.post enc Try.prog Try.f3 false true false false) := by
  refine returnsInHanded_of_change (C := Try.checked) ownU started (by kernel_rfl) Try.func3
    (ChangeSpec.witness6 (enc := enc) (C := Try.checked) false ⟨#[], #[.string ByteArray.empty], []⟩ 8 (by kernel_rfl) (by kernel_rfl) (by kernel_rfl) (by kernel_rfl)) ?_
  intro W base args ds gs before hval0 hW hcnd _
  have hval : ∀ (j : Nat) t v, Try.f3.params[j]? = some t → args[j]? = some v → Value.okWide Try.prog W .any base t v := hval0
  have hW' := hW
  obtain ⟨p, q, hA0, hV, rfl, hfz, hnd⟩ := hW
  have hA : DataW.TrodAll enc Try.prog W 0 (fun _ => true) true Try.f3.params.toList args.toList ds p := hA0
  rw [Try.params3] at hA hval
  obtain ⟨v0, vs0, d0, ds0, p0, q0, hargs, rfl, rfl, h0, r0⟩ := trodAll_cons hA
  obtain ⟨rfl, rfl, rfl⟩ := trodAll_nil r0
  obtain rfl : args = #[v0] := by cases args; simp_all
  obtain ⟨rfl, rfl⟩ := trodVars_none hV
  obtain ⟨a0, rfl, rfl, rfl, w0⟩ := open_string Try.underlying9 (hval 0 9 v0 rfl rfl) h0
  clear hA0 hval0
  refine (units_law a0 W w0).mono fun e W' ⟨he, bel⟩ => ?_
  subst he
  exact ⟨_, rfl, _, _, _, [], _, [], hW', trodAll_mk1 (shut_bool Try.underlying4 _), trodAll_cons_mk (shut_string Try.underlying9 w0) trodAll_mk0, rfl, bel.frame _, fun h => by cases h⟩

theorem units_holds : Rows.UnitsSaid :=
  OpenClaim.holds_of_wide 3 Try.f3 rfl rfl rfl rfl rfl rfl rfl ⟨rfl, rfl, rfl, rfl, rfl⟩ rfl rfl rfl rfl rfl (by kernel_rfl) Try.func3 (by kernel_rfl)
    (of_decide_eq_true (by kernel_rfl)) (by unfold Func.isWrapper; first | (rw [if_pos (by decide +kernel)]; kernel_rfl) | (rw [if_neg (by decide +kernel)]; exact ⟨rfl, rfl⟩))
    (fun os started H enc _ => units_lifted os started H enc)
#print axioms units_holds

end Go.Proofs.Ytpgcidpghmoibaa
