/-
  THE WALK of the reference's Units: the same units, in new memory; or the error's number of a long text and nothing. Conditions: none on a long text; a short one has at most 1000 bytes.
-/
import Derived.Test.YtpgcidpghmoibaaUnitsW
import Derived.Test.YtpgcidpghmoibaaNext
import Derived.Maps.AppendAt
namespace Go.Proofs.Ytpgcidpghmoibaa
open Go.RowKit

set_option maxRecDepth 100000 in
set_option maxHeartbeats 400000 in
theorem runits_long (s : ByteArray) (w : World) (h : 1000 < s.size) (_hs : s.size ≤ maxLen) :
    Calls Try.prog 10 #[.string s] w fun e w' => e = .returned (.tuple #[.slice none 0 0, .slice none 0 0, .int .i64 1]) ∧ w' = w := by
  go_enter Try.func10, Try.ntmps10
  go_wp2
  go_ret3
  exact ⟨rfl, rfl⟩

/-- No block belongs to both. -/
def Apart (u v : Value) : Prop := ∀ k, u.ownBlock = some k → v.ownBlock = some k → False

theorem Apart.symm {u v : Value} (h : Apart u v) : Apart v u := fun k a b => h k b a
theorem Apart.kept {u v : Value} (h : Apart u v) : u.ownBlock = none ∨ u.ownBlock ≠ v.ownBlock := by
  cases e : u.ownBlock with
  | none => exact .inl rfl
  | some k => exact .inr (fun e2 => h k e e2.symm)
theorem Apart.nil (v : Value) : Apart (.slice none 0 0) v := fun k h => by simp [Value.ownBlock] at h

/-- A row that was appended to lies apart from a row that lay apart before. -/
theorem Apart.grown {W : World} {o : Obj} {u u' v : Value} {b e n : Nat} {xs : List Value} (h : Apart u v) (hv : W.ownsRow b e 1 v n xs) (hat : u'.ownBlock = u.ownBlock ∨ u'.ownBlock = some (W.alloc o).heap.size) : Apart u' v := by
  intro k hk hk2
  rcases hat with hat | hat
  · exact h k (hat ▸ hk) hk2
  · rw [hat] at hk
    have := (hv.lt k hk2).2
    simp at hk
    omega

set_option maxRecDepth 100000 in
set_option maxHeartbeats 1000000 in
theorem runits_short (s : ByteArray) (w : World) (h : s.size ≤ 1000) :
    Calls Try.prog 10 #[.string s] w fun e w' => ∃ v1 v2, e = .returned (.tuple #[v1, v2, .int .i64 0]) ∧
      w'.ownsRow w.heap.size 3 1 v1 (U.units s).length (U.runes64 (U.units s)) ∧ w'.ownsRow w.heap.size 3 1 v2 (U.units s).length (U.starts64 (U.units s)) ∧ Below w.heap.size w w' := by
  obtain ⟨i0, hi, hz0, hz1, hz2⟩ := info_parts infoInt
  go_enter Try.func10, Try.ntmps10
  go_wp2
  go_loopw [5, 6, 7] (fun v1 v2 i wr => ∃ (pos : Nat) (l : List (Nat × Nat)), i = .int .i64 pos ∧ wr.ownsRow w.heap.size 3 1 v1 l.length (U.runes64 l) ∧ wr.ownsRow w.heap.size 3 1 v2 l.length (U.starts64 l) ∧ Apart v1 v2 ∧ Below w.heap.size w wr ∧ U.Upto s pos l)
    (fun _ _ i _ => s.size - (intOf i).toNat)
  case atStart => exact ⟨0, [], rfl, World.ownsRow_nil _ _ _ _, World.ownsRow_nil _ _ _ _, Apart.nil _, Below.refl _ _, U.Upto.zero s⟩
  case round =>
    obtain ⟨pos, l, rfl, ho1, ho2, hap, hbw, hup⟩ := hrel
    have hl := hup.length
    have hle := hup.1
    have HU : Hid (U.Upto s pos l) := hup
    clear hup
    by_cases hp : pos < s.size
    · have hwd := U.width s pos hp
      have hsz := hbw.size
      go_wp2_with (first
        | (go_at_call 12; refine (next_any s pos _ (by omega) hp).mono ?_; rintro e w' ⟨rfl, rfl⟩)
        | (at_builtin; refine wpList_append_own_at _ rfl (.tmp 25) (.tmp 27) 24 rfl w.heap.size 3 i0 (.int .i64 0) 1 8 Try.underlying24 hi hz0 hz1 hz2 rfl (by decide) _ _ _ rfl (ho1.alloc _) ⟨w'.heap.size, 0, none⟩ 1 1 [.int .i64 ((Utf8.decode s pos).1 : Int)] rfl rfl (cell_one_new _ _ _) (fun x hx => by simp at hx; subst hx; rfl) (by unfold maxLen; omega) (by omega) (by simp; omega) ?_
           intro v1 w2 hn1 hg1 _ hat1
           have k2 : w2.ownsRow w.heap.size 3 1 u6 l.length (U.starts64 l) := (ho2.alloc _).kept hg1 hap.symm.kept
           have ap2 : Apart v1 u6 := hap.grown ho2 hat1
           have hb2 : Below w.heap.size w w2 := Below.grown (hbw.alloc (by omega) _) hg1 (by simp; omega) (fun k hk => (ho1.lt k hk).1)
           have hs2 := hb2.size
           have X1 : Hid (w2.ownsRow w.heap.size 3 1 v1 (l.length + 1) (U.runes64 l ++ [.int .i64 ((Utf8.decode s pos).1 : Int)]) ∧ Apart v1 u6 ∧ Below w.heap.size w w2) := ⟨hn1, ap2, hb2⟩
           clear hn1 hg1 hat1 ap2 hb2 ho1 ho2 hap hbw)
        | (at_builtin; refine wpList_append_own_at _ rfl (.tmp 29) (.tmp 31) 24 rfl w.heap.size 3 i0 (.int .i64 0) 1 8 Try.underlying24 hi hz0 hz1 hz2 rfl (by decide) _ _ _ rfl (k2.alloc _) ⟨w2.heap.size, 0, none⟩ 1 1 [.int .i64 (pos : Int)] rfl rfl (cell_one_new _ _ _) (fun x hx => by simp at hx; subst hx; rfl) (by unfold maxLen; omega) (by omega) (by simp; omega) ?_
           intro v2 w3 hn2 hg2 _ hat2
           have k1 := (X1.out.1.alloc (.cells #[.int .i64 (pos : Int)] 3)).kept hg2 X1.out.2.1.kept
           have ap3 : Apart v1 v2 := (X1.out.2.1.symm.grown X1.out.1 hat2).symm
           have hb3 : Below w.heap.size w w3 := Below.grown (X1.out.2.2.alloc (by omega) _) hg2 (by simp; omega) (fun k hk => (k2.lt k hk).1)
           have X2 : Hid (w3.ownsRow w.heap.size 3 1 v1 (l.length + 1) (U.runes64 l ++ [.int .i64 ((Utf8.decode s pos).1 : Int)]) ∧ w3.ownsRow w.heap.size 3 1 v2 (l.length + 1) (U.starts64 l ++ [.int .i64 (pos : Int)]) ∧ Apart v1 v2 ∧ Below w.heap.size w w3) := ⟨k1, hn2, ap3, hb3⟩
           clear hn2 hg2 hat2 k1 k2 ap3 hb3 X1))
      go_roundw
      case rel =>
        refine ⟨pos + (Utf8.decode s pos).2, l ++ [((Utf8.decode s pos).1, pos)], by go_num, ?_, ?_, X2.out.2.2.1, X2.out.2.2.2, HU.out.step hp⟩
        · rw [runes64_snoc, List.length_append]; exact X2.out.1
        · rw [starts64_snoc, List.length_append]; exact X2.out.2.1
      case measure => simp [intOf]; omega
    · have E := HU.out.done (by omega)
      subst E
      clear hl
      go_wp2
      go_ret3
      exact ⟨_, _, rfl, ho1, ho2, hbw⟩

end Go.Proofs.Ytpgcidpghmoibaa
