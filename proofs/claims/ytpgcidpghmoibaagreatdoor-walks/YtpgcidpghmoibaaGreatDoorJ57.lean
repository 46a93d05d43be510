/-
  THE LAW's HELPER within: each match from within a unit begins where the unit does. Conditions: the rules may be asked; the text has at most 1000 bytes.
-/
import Derived.Test.YtpgcidpghmoibaaGreatDoorJ56
import Derived.Test.YtpgcidpghmoibaaGreatDoorJ50
import Derived.Test.YtpgcidpghmoibaaGreatDoorJ44
namespace Go.Proofs.YtpgcidpghmoibaaGreatDoor
namespace Pr
open Go.RowKit
open G (PNode)

/-- Where the loop of within stands: the unit ahead of place i. -/
def WIn (s : ByteArray) (i k : Nat) : Prop := (i = 0 ∧ k = 0) ∨ (k < (U.units s).length ∧ G.edge s k < i ∧ i ≤ G.edge s (k + 1))

set_option maxRecDepth 100000 in
set_option maxHeartbeats 2000000 in
theorem within_any (w : World) (b m : Nat) (I : Nat → Prop) (v : Value) (V : List Value) (T : List PNode) (Q : List Nat) (P : List Pl) (f : PB) (hP : PIn w b m I v V T Q P f) (s : ByteArray) (hs : s.size ≤ 1000) :
    Calls Tryz.prog 39 #[pv b, .string s] w fun e w' => e = .returned (.bool true) ∧ Below w.heap.size w w' := by
  have hul := U.units_length s
  have hedge : ∀ k x, (U.units s)[k]? = some x → G.edge s k = x.2 := fun k x hx => G.edge_of hx
  have hend : ∀ k, (U.units s).length ≤ k → G.edge s k = s.size := fun k hk => G.edge_end s k (by rw [G.us_len]; exact hk)
  have hlt' : ∀ k, k < (U.units s).length → G.edge s k < G.edge s (k + 1) := fun k hk => G.edge_lt s k (by rw [G.us_len]; exact hk)
  have hu : ∀ i k, k < (U.units s).length → G.edge s k ≤ i → i < G.edge s (k + 1) → G.UnitAt s (i : Int) k := fun i k h1 h2 h3 => G.unit_of (by rw [G.us_len]; exact h1) h2 h3
  have h0 := G.edge_zero s
  have hn0 : 0 < s.size → 0 < (U.units s).length := fun h => by
    rcases Nat.eq_zero_or_pos (U.units s).length with e | e
    · have := hend 0 (by omega); omega
    · exact e
  go_enter Tryz.func39, Tryz.ntmps39
  go_wp2_with fail
  refine (units_short s w hs).mono ?_
  rintro e w2 ⟨v1, v2, rfl, o1, o2, hb2⟩
  have z2 := hb2.size
  have o2 := own_zero o2
  obtain ⟨a1, d1, rfl⟩ := own_len' o1
  obtain ⟨a2, d2, rfl⟩ := own_len' o2
  have hP2 := hP.below hb2
  clear hP o1
  have cell : ∀ k, k < (U.units s).length → ∃ g, a2 = some ⟨g, 0, none⟩ ∧ ∀ wr, Below w2.heap.size w2 wr → wr.cell? ⟨g, k, none⟩ = some (.int .i64 (G.edge s k : Int)) := fun k hk => by
    obtain ⟨x, hx⟩ : ∃ x, (U.units s)[k]? = some x := ⟨_, List.getElem?_eq_getElem hk⟩
    have := row_cell2 o2 (k := k) (u := .int .i64 (x.2 : Int)) (by simp [U.starts64, hx]) hk
    rw [hedge k x hx]
    exact this
  have HE : Hid _ := And.intro hend (And.intro hlt' (And.intro hu (And.intro h0 hn0)))
  have HC : Hid _ := cell
  clear hedge hend hlt' hu h0 hn0 cell o2
  have HW : Hid (∀ i k, WIn s i k → WIn s i k) := fun _ _ h => h
  generalize hN : (U.units s).length = n at *
  have HN : Hid ((U.units s).length = n) := hN
  clear hN
  go_wp2_with fail
  go_loopw [8, 9] (fun vk vi wr => ∃ i k : Nat, vi = .int .i64 i ∧ vk = .int .i64 k ∧ i ≤ s.size ∧ WIn s i k ∧ Below w2.heap.size w2 wr) (fun _ vi _ => s.size - (intOf vi).toNat)
  case atStart => exact ⟨0, 0, rfl, rfl, Nat.zero_le _, .inl ⟨rfl, rfl⟩, Below.refl _ _⟩
  case round =>
    obtain ⟨i, k, rfl, rfl, hi, hWI, hbr⟩ := hrel
    have zr := hbr.size
    by_cases hlt : i < s.size
    · obtain ⟨hend, hlt', hu, h0, hn0⟩ := HE.out
      have hn1 := hn0 (by omega)
      have hkn : k < n := by
        rcases hWI with ⟨_, rfl⟩ | ⟨h, _⟩
        · exact hn1
        · rw [HN.out] at h; exact h
      have hbnd : G.edge s k ≤ i ∧ i ≤ G.edge s (k + 1) := by
        rcases hWI with ⟨rfl, rfl⟩ | ⟨_, h1, h2⟩
        · rw [h0]; exact ⟨Nat.le_refl _, Nat.zero_le _⟩
        · exact ⟨Nat.le_of_lt h1, h2⟩
      have hil : (i : Int) < (s.size : Int) := by omega
      have hkI : (k : Int) < (n : Int) := by omega
      have hk0 : (0 : Int) ≤ (k : Int) := by omega
      obtain ⟨g, rfl, ckA⟩ := HC.out k hkn
      have ck := ckA wr hbr
      by_cases hk1 : k + 1 < n
      · have hk1I : (k : Int) + 1 < (n : Int) := by omega
        obtain ⟨g', hg', ck1⟩ := HC.out (k + 1) hk1
        obtain rfl : g = g' := by simpa using hg'
        have ck1 := ck1 wr hbr
        clear hg'
        by_cases hq : G.edge s (k + 1) = i
        · have HX : Hid (WIn s (i + 1) (k + 1)) := .inr ⟨by rw [HN.out]; exact hk1, by omega, by have := hlt' (k + 1) hk1; omega⟩
          rw [hq] at ck1
          clear hend hlt' hu h0 hn0 hWI hbnd HE ck ckA
          go_wp2
          go_roundw
          case rel => exact ⟨i + 1, k + 1, by go_num, by go_num, by omega, HX.out, hbr⟩
          case measure => simp [intOf]; omega
        · have hnq : ((G.edge s (k + 1) : Int) == (i : Int)) = false := by simp; omega
          by_cases he : G.edge s k = i
          · have HX : Hid (WIn s (i + 1) k) := .inr ⟨by rw [HN.out]; exact hkn, by omega, by omega⟩
            have hes : ((G.edge s k : Int) == (i : Int)) = true := by rw [he]; simp
            have hes2 : ((i : Int) == (G.edge s k : Int)) = true := by rw [he]; simp
            rw [he] at ck
            clear hend hlt' hu h0 hn0 hWI hbnd HE hes hes2
            go_wp2
            go_roundw
            case rel => exact ⟨i + 1, k, by go_num, rfl, by omega, HX.out, hbr⟩
            case measure => simp [intOf]; omega
          · have HX : Hid (WIn s (i + 1) k) := .inr ⟨by rw [HN.out]; exact hkn, by omega, by omega⟩
            have hU : G.UnitAt s (i : Int) k := hu i k hkn hbnd.1 (by omega)
            have hne2 : ((i : Int) == (G.edge s k : Int)) = false := by simp; omega
            have HU : Hid _ := hU
            have HCK : Hid _ := ckA
            clear hend hlt' hu h0 hn0 hWI hbnd HE hU he ckA
            go_wp2_with fail
            refine (pmatch_short wr b m I v V T Q P f (hP2.below hbr) s (i : Int) hs).mono ?_
            rintro e w3 ⟨⟨g3, ⟨k1, n1, r1, hu1, _, rfl⟩, rfl⟩, hb3⟩
            obtain rfl := hu1.one HU.out
            have z3 := hb3.size
            have hb3' : Below w2.heap.size w2 w3 := hbr.trans (hb3.mono zr)
            have hbA : Below w2.heap.size w2 (w3.alloc (.cells #[.int .i64 (G.edge s k1 : Int), .int .i64 (G.edge s (k1 + n1) : Int), .int .i64 r1] 65)) := hb3'.alloc (by omega) _
            have ck2 := HCK.out _ hbA
            have m0 := cell_blk (heap_alloc_new w3 (.cells #[.int .i64 (G.edge s k1 : Int), .int .i64 (G.edge s (k1 + n1) : Int), .int .i64 r1] 65)) 0 (.int .i64 (G.edge s k1 : Int)) rfl
            clear ck hu1 hb3 hb3'
            go_wp2_with fail
            go_quiet (fail)
            go_wp2
            go_roundw
            case rel => exact ⟨i + 1, k1, by go_num, rfl, by omega, HX.out, below_drewN hbA _⟩
            case measure => simp [intOf]; omega
      · have hk1I : ¬ (k : Int) + 1 < (n : Int) := by omega
        have hq : ¬ G.edge s (k + 1) = i := by rw [hend (k + 1) (by omega)]; omega
        by_cases he : G.edge s k = i
        · have HX : Hid (WIn s (i + 1) k) := .inr ⟨by rw [HN.out]; exact hkn, by omega, by omega⟩
          have hes : ((G.edge s k : Int) == (i : Int)) = true := by rw [he]; simp
          have hes2 : ((i : Int) == (G.edge s k : Int)) = true := by rw [he]; simp
          rw [he] at ck
          clear hend hlt' hu h0 hn0 hWI hbnd HE hes hes2
          go_wp2
          go_roundw
          case rel => exact ⟨i + 1, k, by go_num, rfl, by omega, HX.out, hbr⟩
          case measure => simp [intOf]; omega
        · have HX : Hid (WIn s (i + 1) k) := .inr ⟨by rw [HN.out]; exact hkn, by omega, by omega⟩
          have hU : G.UnitAt s (i : Int) k := hu i k hkn hbnd.1 (by omega)
          have hne2 : ((i : Int) == (G.edge s k : Int)) = false := by simp; omega
          have HU : Hid _ := hU
          have HCK : Hid _ := ckA
          clear hend hlt' hu h0 hn0 hWI hbnd HE hU he ckA
          go_wp2_with fail
          refine (pmatch_short wr b m I v V T Q P f (hP2.below hbr) s (i : Int) hs).mono ?_
          rintro e w3 ⟨⟨g3, ⟨k1, n1, r1, hu1, _, rfl⟩, rfl⟩, hb3⟩
          obtain rfl := hu1.one HU.out
          have z3 := hb3.size
          have hb3' : Below w2.heap.size w2 w3 := hbr.trans (hb3.mono zr)
          have hbA : Below w2.heap.size w2 (w3.alloc (.cells #[.int .i64 (G.edge s k1 : Int), .int .i64 (G.edge s (k1 + n1) : Int), .int .i64 r1] 65)) := hb3'.alloc (by omega) _
          have ck2 := HCK.out _ hbA
          have m0 := cell_blk (heap_alloc_new w3 (.cells #[.int .i64 (G.edge s k1 : Int), .int .i64 (G.edge s (k1 + n1) : Int), .int .i64 r1] 65)) 0 (.int .i64 (G.edge s k1 : Int)) rfl
          clear ck hu1 hb3 hb3'
          go_wp2_with fail
          go_quiet (fail)
          go_wp2
          go_roundw
          case rel => exact ⟨i + 1, k1, by go_num, rfl, by omega, HX.out, below_drewN hbA _⟩
          case measure => simp [intOf]; omega
    · obtain rfl : i = s.size := by omega
      clear HE HC
      go_wp2
      go_ret
      exact ⟨rfl, hb2.trans (hbr.mono z2)⟩

end Pr
end Go.Proofs.YtpgcidpghmoibaaGreatDoor
