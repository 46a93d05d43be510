/-
  THE LAWS' HELPER begin: rules that cut words off. Condition: the library's tables lie in memory as the text lays them.
  THE WALK of the statement Parted's law: it answers true of every two texts. Condition: the library's tables lie in memory as the text lays them.
  THE WALK of the statement Parted's law, of texts of at most 1000 bytes. Condition: the library's tables lie in memory as the text lays them.
-/
import Derived.Test.YtpgcidpghmoibaaGreatDoorJ46
import Derived.Test.YtpgcidpghmoibaaGreatDoorJ47
import Derived.Laws.Cover4
import Derived.Deep.QuietTactic
import Derived.BigQuiet
namespace Go.Proofs.YtpgcidpghmoibaaGreatDoor
namespace Pr
open Go.RowKit
open G (PNode)

set_option maxRecDepth 100000 in
set_option maxHeartbeats 1000000 in
theorem begin_any (w : World) (hT : Tabs w) : Calls Tryz.prog 23 #[] w fun e w' => (∃ b m I v V P f, e = .returned (pv b) ∧ PIn w' b m I v V G.wordsT ([] ++ [G.wT3.length]) P f) ∧ Below w.heap.size w w' := by
  have hC := words_comp w hT
  have hwf := (words_wf w).1
  go_enter Tryz.func23, Tryz.ntmps23
  go_wp2_with (first
    | (go_at_call 27
       refine hM.mono ?_
       rintro e w2 ⟨⟨vo, l, rfl, hcut, ho⟩, hb2⟩
       have hl : l = [⟨0, 2, 0⟩, ⟨2, 3, -1⟩] := (hcut.one (G.ab1_cut hwf))
       subst hl
       have ho := own_zero ho
       obtain ⟨a4, d4, hv4⟩ := own_len' ho
       subst hv4
       obtain ⟨g, hg, h0⟩ := seg_cells ho (k := 0) (x := ⟨0, 2, 0⟩) rfl (by decide)
       subst hg
       obtain ⟨g', hg', h1⟩ := seg_cells ho (k := 1) (x := ⟨2, 3, -1⟩) rfl (by decide)
       obtain rfl : g = g' := (by simpa using hg')
       obtain ⟨r00, r01, r02⟩ := h0 w2 (Below.refl _ _)
       obtain ⟨r10, r11, r12⟩ := h1 w2 (Below.refl _ _)
       have heq := eqSeg 0 2 0 0 2 0
       have heq1 := eqSeg 2 3 (-1) 2 3 (-1)
       clear h0 h1 hg' hcut ho)
    | (go_at_call 13
       refine hC.mono ?_
       rintro e w1 ⟨⟨b, m, I, v, V, P, f, rfl, hP⟩, hb1⟩
       have hM := pcut_short w1 b m I v V G.wordsT _ P f hP G.ab1 (by decide)))
  go_ret
  exact ⟨⟨b, m, I, v, V, P, f, rfl, hP.below hb2⟩, hb1.trans (hb2.mono hb1.size)⟩

end Pr
end Go.Proofs.YtpgcidpghmoibaaGreatDoor

namespace Go.Proofs.YtpgcidpghmoibaaGreatDoor
namespace U
/-- Where unit k ends. -/
def endU (s : ByteArray) (k : Nat) : Nat := match (units s)[k + 1]? with | some y => y.2 | none => s.size
theorem rest_at (s : ByteArray) : ∀ (k p : Nat) (x : Nat × Nat), p ≤ s.size → (rest s p)[k]? = some x → p ≤ x.2 ∧ x.2 < s.size ∧ x.1 = (Utf8.decode s x.2).1 ∧ (match (rest s p)[k + 1]? with | some y => y.2 | none => s.size) = x.2 + (Utf8.decode s x.2).2
  | k, p, x, hp, h => by
    have hlt : p < s.size := by
      rcases Nat.lt_or_ge p s.size with e | e
      · exact e
      · rw [rest_end s p e] at h; simp at h
    have hw := width s p hlt
    rw [rest_step s p hlt] at h ⊢
    cases k with
    | zero =>
      simp only [List.getElem?_cons_zero, Option.some.injEq] at h
      subst h
      refine ⟨Nat.le_refl _, hlt, rfl, ?_⟩
      simp only [List.getElem?_cons_succ]
      rcases Nat.lt_or_ge (p + (Utf8.decode s p).2) s.size with e | e
      · rw [rest_step s _ e]; rfl
      · rw [rest_end s _ e]
        show s.size = _
        omega
    | succ k =>
      simp only [List.getElem?_cons_succ] at h ⊢
      obtain ⟨h1, h2, h3, h4⟩ := rest_at s k _ x hw.2 h
      exact ⟨by omega, h2, h3, h4⟩
theorem unit_at (s : ByteArray) (k : Nat) (x : Nat × Nat) (h : (units s)[k]? = some x) : x.2 < s.size ∧ x.1 = (Utf8.decode s x.2).1 ∧ endU s k = x.2 + (Utf8.decode s x.2).2 ∧ (k = 0 → x.2 = 0) := by
  obtain ⟨_, h2, h3, h4⟩ := rest_at s k 0 x (Nat.zero_le _) h
  refine ⟨h2, h3, h4, fun hk => ?_⟩
  subst hk
  unfold units at h
  rw [rest_step s 0 (by omega)] at h
  simp only [List.getElem?_cons_zero, Option.some.injEq] at h
  rw [← h]
end U
namespace Pr
open Go.RowKit

theorem row_cell {w : World} {e : TypeId} {la : Option Addr} {n lc : Nat} {xs : List Value} (h : w.ownsRow 0 e 1 (.slice la n lc) n xs) {k : Nat} {u : Value} (hu : xs[k]? = some u) (hk : k < n) :
    ∃ g, la = some ⟨g, 0, none⟩ ∧ ∀ wr, Below w.heap.size w wr → wr.cell? ⟨g, k, none⟩ = some u := by
  obtain ⟨g, cap, hv, _, hlt⟩ := h.form (by omega)
  simp only [Value.slice.injEq] at hv
  obtain ⟨rfl, _, rfl⟩ := hv
  refine ⟨g, rfl, fun wr hb => ?_⟩
  rw [hb.cell (p := ⟨g, k, none⟩) hlt]
  exact own_cell1 h hu

set_option maxRecDepth 100000 in
set_option maxHeartbeats 2000000 in
theorem parted_long (w : World) (s t : ByteArray) (hs : 1000 < s.size) (hm : s.size ≤ maxLen) (hT : Tabs w) :
    Calls Tryz.prog 5 #[.string s, .string t] w fun e w' => e = .returned (.bool true) ∧ Below w.heap.size w w' := by
  go_enter Tryz.func5, Tryz.ntmps5
  go_wp2_with (first
    | (go_at_call 23; refine (begin_any w hT).mono ?_; rintro e w1 ⟨⟨b, m, I, v, V, P, f, rfl, hP⟩, hb1⟩)
    | (go_at_call 24; refine (units_long s _ hs hm).mono ?_; rintro e w2 ⟨rfl, rfl⟩))
  go_ret
  exact ⟨rfl, hb1⟩
end Pr
end Go.Proofs.YtpgcidpghmoibaaGreatDoor

namespace Go.Proofs.YtpgcidpghmoibaaGreatDoor
namespace Pr
open Go.RowKit

theorem one_rune (r : Int) : runesBytes ([r].take 1) = Utf8.encode r := by
  unfold runesBytes
  show ByteArray.empty ++ Utf8.encode r = Utf8.encode r
  exact ByteArray.empty_append
theorem written (w : World) (r : Int) (cap : Nat) : (convert 49 9 (.slice (some ⟨w.heap.size, 0, none⟩) 1 cap)).run Tryz.prog (w.alloc (.cells #[.int .i32 (r : Int)] 21)) = .ok (.string (Utf8.encode (r : Int))) (w.alloc (.cells #[.int .i32 (r : Int)] 21)) := by
  have h := run_convert_runes (P := Tryz.prog) (w.alloc (.cells #[.int .i32 (r : Int)] 21)) 49 9 21 ⟨w.heap.size, 0, none⟩ 1 cap [(r : Int)] (by simp) (by kernel_rfl) (by kernel_rfl) (by kernel_rfl) (fun j hj => by
    obtain rfl : j = 0 := by simpa using hj
    exact cell_blk (heap_alloc_new w _) 0 _ rfl)
  rw [one_rune] at h
  exact h

set_option maxRecDepth 100000 in
set_option maxHeartbeats 4000000 in
theorem parted_short (w : World) (s t : ByteArray) (hs : s.size ≤ 1000) (ht : t.size ≤ 140737488351232) (hT : Tabs w) :
    Calls Tryz.prog 5 #[.string s, .string t] w fun e w' => e = .returned (.bool true) ∧ Below w.heap.size w w' := by
  have hnl := U.units_length s
  have hn0 : 0 < s.size → 0 < (U.units s).length := by
    intro h
    unfold U.units
    rw [U.rest_step s 0 h]
    simp
  go_enter Tryz.func5, Tryz.ntmps5
  go_wp2_with fail
  refine (begin_any w hT).mono ?_
  rintro e w1 ⟨⟨b, m, I, v, V, P, f, rfl, hP⟩, hb1⟩
  have z1 := hb1.size
  clear hP hT
  go_wp2_with fail
  refine (units_short s _ hs).mono ?_
  rintro e w2 ⟨v1, v2, rfl, o1, o2, hb2⟩
  have z2 := hb2.size
  have hb2' : Below w.heap.size w w2 := hb1.trans (hb2.mono z1)
  have o1 := own_zero o1
  have o2 := own_zero o2
  obtain ⟨a1, d1, rfl⟩ := own_len' o1
  obtain ⟨a2, d2, rfl⟩ := own_len' o2
  obtain ⟨n, hn⟩ : ∃ n, (U.units s).length = n := ⟨_, rfl⟩
  rw [hn] at o1 o2 hnl hn0 ⊢
  have HN : Hid ((U.units s).length = n) := hn
  have HO : Hid (w2.ownsRow 0 21 1 (.slice a1 n d1) n (U.runes32 (U.units s)) ∧ w2.ownsRow 0 3 1 (.slice a2 n d2) n (U.starts64 (U.units s))) := ⟨o1, o2⟩
  have HB2 : Hid (Below w.heap.size w w2) := hb2'
  have gd0 : ((n : Int) == 0) = s.toList.isEmpty := by
    have hz : s.toList.length = s.size := by rw [ByteArray.toList_eq]; rfl
    rcases Nat.eq_zero_or_pos s.size with e | e
    · have h1 : n = 0 := by omega
      have h2 : s.toList = [] := List.length_eq_zero_iff.1 (by omega)
      rw [h1, h2]
      rfl
    · have h1 := hn0 e
      cases hl : s.toList with
      | nil => rw [hl] at hz; simp at hz; omega
      | cons a l =>
        show ((n : Int) == 0) = false
        simp
        omega
  clear hn o1 o2 hb1 hb2 hb2' hn0
  go_wp2
  go_loopw [9] (fun i wr => ∃ k : Nat, k ≤ n ∧ i = .int .i64 k ∧ Below w2.heap.size w2 wr) (fun i _ => n - (intOf i).toNat)
  case atStart => exact ⟨0, Nat.zero_le _, rfl, Below.refl _ _⟩
  case round =>
    obtain ⟨k, hk, rfl, hbr⟩ := hrel
    by_cases hlt : k < n
    · have hkL : k < (U.units s).length := by rw [HN.out]; exact hlt
      obtain ⟨x, hx⟩ : ∃ x, (U.units s)[k]? = some x := ⟨(U.units s)[k], by simp [hkL]⟩
      obtain ⟨hx1, hx2, hx3, hx4⟩ := U.unit_at s k x hx
      obtain ⟨g1, rfl, c1⟩ := row_cell HO.out.1 (k := k) (u := .int .i32 (x.1 : Int)) (by simp [U.runes32, hx]) hlt
      obtain ⟨g2, rfl, c2⟩ := row_cell HO.out.2 (k := k) (u := .int .i64 (x.2 : Int)) (by simp [U.starts64, hx]) hlt
      have e1 := c1 wr hbr
      have HC1 : Hid _ := c1
      have e2 := c2 wr hbr
      have hpc := U.piece s x.2 hx1
      have hwd := U.width s x.2 hx1
      have hrb := (U.units_bound s x (List.mem_of_getElem? hx)).1
      rw [← hx2] at hpc
      have hki : (k : Int) < (n : Int) := by omega
      have hk0 : (0 : Int) ≤ (k : Int) := by omega
      have hend : (k + 1 < n ∧ wr.cell? ⟨g2, k + 1, none⟩ = some (.int .i64 (U.endU s k : Int))) ∨ (¬ k + 1 < n ∧ U.endU s k = s.size) := by
        by_cases hl2 : k + 1 < n
        · have hkL2 : k + 1 < (U.units s).length := by rw [HN.out]; exact hl2
          obtain ⟨y, hy⟩ : ∃ y, (U.units s)[k + 1]? = some y := ⟨(U.units s)[k + 1], by simp [hkL2]⟩
          obtain ⟨g2', hg2, c3⟩ := row_cell HO.out.2 (k := k + 1) (u := .int .i64 (y.2 : Int)) (by simp [U.starts64, hy]) hl2
          obtain rfl : g2 = g2' := by simpa using hg2
          have hye : U.endU s k = y.2 := by unfold U.endU; rw [hy]
          rw [hye]
          exact .inl ⟨hl2, c3 wr hbr⟩
        · refine .inr ⟨hl2, ?_⟩
          unfold U.endU
          rw [List.getElem?_eq_none (by rw [HN.out]; omega)]
      have hqs : x.2 < U.endU s k ∧ U.endU s k ≤ s.size := by omega
      have hpc2 : s.extract x.2 (U.endU s k) = Utf8.encode (x.1 : Int) ∨ (x.1 = 65533 ∧ U.endU s k = x.2 + 1) := by
        rw [hx3]
        rcases hpc with h | h
        · exact .inl h
        · exact .inr ⟨h.1, by omega⟩
      have hw := fun cap => written wr x.1 cap
      generalize U.endU s k = q at *
      obtain ⟨r, p⟩ := x
      simp only at *
      have HX : Hid (k = 0 → p = 0) := hx4
      clear hx hx2 hx3 hx4 c1 c2 hpc hwd hkL
      have hp0 : (0 : Int) ≤ (p : Int) := by omega
      have hpq : ¬ (q : Int) ≤ (p : Int) := by omega
      have hpq' : (p : Int) ≤ (q : Int) := by omega
      have hqz : (q : Int) ≤ (s.size : Int) := by omega
      have hpn : ¬ (p : Int) < 0 := by omega
      have hk1 : IntKind.i64.wrap ((k : Int) + 1) = (k : Int) + 1 := by rw [IntKind.wrap_i64]; omega
      have hk2 : ((k : Int) + 1).toNat = k + 1 := by omega
      have hk3 : (0 : Int) ≤ (k : Int) + 1 := by omega
      have hkz : k = 0 ∨ ¬ (k : Int) = 0 := by omega
      have HP : Hid (s.extract p q = Utf8.encode (r : Int) ∨ (r = 65533 ∧ q = p + 1)) := hpc2
      have HR : Hid (r ≤ 1114111 ∧ p < q ∧ q ≤ s.size) := ⟨hrb, hqs⟩
      clear hpc2 hrb hqs hx1
      obtain ⟨E, hE⟩ : ∃ E, Utf8.encode (r : Int) = E := ⟨_, rfl⟩
      simp only [hE] at hw HP
      clear hE
      have hr6 : r = 65533 → (r : Int) = 65533 := fun h => by omega
      have HR6 : Hid (r = 65533 → (r : Int) = 65533) := hr6
      clear hr6
      generalize (r : Int) = ri at *
      have hbA : Below w2.heap.size w2 (wr.alloc (.cells #[.int .i32 ri] 21)) := hbr.alloc hbr.size _
      have e1A : (wr.alloc (.cells #[.int .i32 ri] 21)).cell? ⟨g1, k, none⟩ = some (.int .i32 ri) := HC1.out _ hbA
      by_cases hpe : (s.extract p q).toList = E.toList
      · rcases hend with ⟨hl2, e3⟩ | ⟨hl2, hq⟩
        · have hl2' : (k : Int) + 1 < (n : Int) := by omega
          rcases hkz with rfl | hkz
          · obtain rfl : p = 0 := HX.out rfl
            go_wp2
            go_roundw
            case rel => exact ⟨0 + 1, by omega, by rfl, hbA⟩
            case measure => simp [intOf]; omega
          · go_wp2
            go_roundw
            case rel => exact ⟨k + 1, by omega, by go_num, hbA⟩
            case measure => simp [intOf]; omega
        · have hl2' : ¬ (k : Int) + 1 < (n : Int) := by omega
          subst hq
          rcases hkz with rfl | hkz
          · obtain rfl : p = 0 := HX.out rfl
            have hse : ¬ s = ByteArray.empty := by rintro rfl; have := HR.out; simp at this
            have hl3 : ¬ (1 : Int) < (n : Int) := by omega
            have hpe2 : E.toList = s.toList := by have h : s.toList = E.toList := (by simpa using hpe); exact h.symm
            go_wp2
            go_roundw
            case rel => exact ⟨0 + 1, by omega, by rfl, hbA⟩
            case measure => simp [intOf]; omega
          · go_wp2
            go_roundw
            case rel => exact ⟨k + 1, by omega, by go_num, hbA⟩
            case measure => simp [intOf]; omega
      · have hq1 : r = 65533 ∧ q = p + 1 := HP.out.resolve_left (fun h => hpe (by rw [h]))
        obtain rfl : ri = 65533 := HR6.out hq1.1
        have hsz : (s.extract p q).size = 1 := by rw [ByteArray.size_extract]; have := HR.out; omega
        clear hq1
        rcases hend with ⟨hl2, e3⟩ | ⟨hl2, hq⟩
        · have hl2' : (k : Int) + 1 < (n : Int) := by omega
          rcases hkz with rfl | hkz
          · obtain rfl : p = 0 := HX.out rfl
            go_wp2
            go_roundw
            case rel => exact ⟨0 + 1, by omega, by rfl, hbA⟩
            case measure => simp [intOf]; omega
          · go_wp2
            go_roundw
            case rel => exact ⟨k + 1, by omega, by go_num, hbA⟩
            case measure => simp [intOf]; omega
        · have hl2' : ¬ (k : Int) + 1 < (n : Int) := by omega
          subst hq
          rcases hkz with rfl | hkz
          · obtain rfl : p = 0 := HX.out rfl
            have hse : ¬ s = ByteArray.empty := by rintro rfl; have := HR.out; simp at this
            have hl3 : ¬ (1 : Int) < (n : Int) := by omega
            have hpe2 : ¬ s.toList = E.toList := by simpa using hpe
            have hsz2 : ((s.size : Int) != 1) = false := by have h : s.size = 1 := (by simpa using hsz); simp [h]
            clear hsz
            go_wp2
            go_roundw
            case rel => exact ⟨0 + 1, by omega, by rfl, hbA⟩
            case measure => simp [intOf]; omega
          · go_wp2
            go_roundw
            case rel => exact ⟨k + 1, by omega, by go_num, hbA⟩
            case measure => simp [intOf]; omega
    · obtain rfl : k = n := by omega
      have zr := hbr.size
      have HBr : Hid (Below w.heap.size w wr) := HB2.out.trans (hbr.mono HB2.out.size)
      have HO3 : Hid (wr.ownsRow 0 21 1 (.slice a1 k d1) k (U.runes32 (U.units s)) ∧ wr.ownsRow 0 3 1 (.slice a2 k d2) k (U.starts64 (U.units s))) := ⟨own_belowAll HO.out.1 hbr, own_belowAll HO.out.2 hbr⟩
      clear HO hbr gd0
      have hw1 : IntKind.i64.wrap ((s.size : Int) + (t.size : Int)) = (s.size : Int) + (t.size : Int) := by rw [IntKind.wrap_i64]; omega
      have hw2 : IntKind.i64.wrap ((s.size : Int) + (t.size : Int) + 1) = (s.size : Int) + (t.size : Int) + 1 := by rw [IntKind.wrap_i64]; omega
      by_cases hbig : 1000 < (s.size : Int) + (t.size : Int) + 1
      · go_wp2
        go_ret
        exact ⟨rfl, HBr.out⟩
      · go_wp2_with fail
        refine (units_short t _ (by omega)).mono ?_
        rintro e w3 ⟨v3, v4, rfl, o3, o4, hb3⟩
        go_wp2_with fail
        have hts : t.size ≤ 1000 := by omega
        refine (units_short (s ++ U.xB ++ t) _ (by rw [ByteArray.size_append, ByteArray.size_append]; show s.size + 1 + t.size ≤ 1000; omega)).mono ?_
        rintro e w4 ⟨v5, v6, rfl, o5, o6, hb4⟩
        have z3 := hb3.size
        have z4 := hb4.size
        have hux := U.units_x s t
        have hmt := U.units_length t
        have o3 := own_belowAll (own_zero o3) hb4
        have o4 := own_belowAll (own_zero o4) hb4
        have o5 := own_zero o5
        have o6 := own_zero o6
        have o1 := own_belowAll (own_belowAll HO3.out.1 hb3) hb4
        have o2 := own_belowAll (own_belowAll HO3.out.2 hb3) hb4
        obtain ⟨a3, d3, rfl⟩ := own_len' o3
        obtain ⟨a4, d4, rfl⟩ := own_len' o4
        obtain ⟨a5, d5, rfl⟩ := own_len' o5
        obtain ⟨a6, d6, rfl⟩ := own_len' o6
        obtain ⟨m, hm⟩ : ∃ m, (U.units t).length = m := ⟨_, rfl⟩
        have hDl : (U.units (s ++ U.xB ++ t)).length = k + 1 + m := by rw [hux, List.length_append, List.length_cons, List.length_map, HN.out, hm]; omega
        rw [hm] at o3 o4 hmt ⊢
        rw [hDl] at o5 o6 ⊢
        have HB4 : Hid (Below w.heap.size w w4) := (HBr.out.trans (hb3.mono (by have := HBr.out.size; omega))).trans (hb4.mono (by have := HBr.out.size; omega))
        have HR : Hid _ := And.intro o1 (And.intro o2 (And.intro o3 (And.intro o4 (And.intro o5 o6))))
        have HU : Hid _ := And.intro hux (And.intro hm hDl)
        clear o1 o2 o3 o4 o5 o6 hux hm hDl hb3 hb4 HO3 HBr hw1 hw2 hbig HB2 zr z3 z4
        go_wp2_with fail
        go_loopw [19] (fun vi wr => ∃ i : Nat, vi = .int .i64 i ∧ i ≤ k + 1 + m ∧ Below w4.heap.size w4 wr) (fun vi _ => k + 1 + m - (intOf vi).toNat)
        case atStart => exact ⟨0, rfl, Nat.zero_le _, Below.refl _ _⟩
        case round =>
          obtain ⟨i, rfl, hi, hbr⟩ := hrel
          have HBr : Hid (Below w4.heap.size w4 wr) := hbr
          by_cases hil : i < k + 1 + m
          · have hii : (i : Int) < (k : Int) + 1 + (m : Int) := by omega
            have hi0 : (0 : Int) ≤ (i : Int) := by omega
            obtain ⟨hux, hm, hDl⟩ := HU.out
            obtain ⟨o1, o2, o3, o4, o5, o6⟩ := HR.out
            rcases Nat.lt_trichotomy i k with hik | hik | hik
            · have hikI : (i : Int) < (k : Int) := by omega
              obtain ⟨x, hx⟩ : ∃ x, (U.units s)[i]? = some x := ⟨_, List.getElem?_eq_getElem (by rw [HN.out]; exact hik)⟩
              have hd : (U.units (s ++ U.xB ++ t))[i]? = some x := by rw [hux, List.getElem?_append_left (by rw [HN.out]; exact hik)]; exact hx
              obtain ⟨g1, rfl, c1⟩ := row_cell o1 (k := i) (u := .int .i32 (x.1 : Int)) (by simp [U.runes32, hx]) hik
              obtain ⟨g2, rfl, c2⟩ := row_cell o2 (k := i) (u := .int .i64 (x.2 : Int)) (by simp [U.starts64, hx]) hik
              obtain ⟨g5, rfl, c5⟩ := row_cell o5 (k := i) (u := .int .i32 (x.1 : Int)) (by simp [U.runes32, hd]) hil
              obtain ⟨g6, rfl, c6⟩ := row_cell o6 (k := i) (u := .int .i64 (x.2 : Int)) (by simp [U.starts64, hd]) hil
              have e1 := c1 wr hbr
              have e2 := c2 wr hbr
              have e5 := c5 wr hbr
              have e6 := c6 wr hbr
              clear c1 c2 c5 c6 o1 o2 o3 o4 o5 o6 hux hm hDl hx hd hbr
              generalize (x.1 : Int) = x1 at *
              generalize (x.2 : Int) = x2 at *
              go_wp2_with fail
              go_quiet (fail)
              go_wp2
              go_roundw
              case rel => exact ⟨i + 1, by go_num, by omega, below_drewN HBr.out _⟩
              case measure => simp [intOf]; omega
            · subst hik
              clear o1 o2 o3 o4 o5 o6 hux hm hDl hbr
              go_wp2
              go_roundw
              case rel => exact ⟨i + 1, by go_num, by omega, HBr.out⟩
              case measure => simp [intOf]; omega
            · obtain ⟨p, hp⟩ : ∃ p, i = k + 1 + p := ⟨i - k - 1, by omega⟩
              subst hp
              have hpm : p < m := by omega
              obtain ⟨y, hy⟩ : ∃ y, (U.units t)[p]? = some y := ⟨_, List.getElem?_eq_getElem (by rw [hm]; exact hpm)⟩
              have hd : (U.units (s ++ U.xB ++ t))[k + 1 + p]? = some (y.1, s.size + 1 + y.2) := by
                rw [hux, List.getElem?_append_right (by rw [HN.out]; omega), HN.out, show k + 1 + p - k = p + 1 by omega, List.getElem?_cons_succ, List.getElem?_map, hy]
                rfl
              obtain ⟨g3, rfl, c3⟩ := row_cell o3 (k := p) (u := .int .i32 (y.1 : Int)) (by simp [U.runes32, hy]) hpm
              obtain ⟨g4, rfl, c4⟩ := row_cell o4 (k := p) (u := .int .i64 (y.2 : Int)) (by simp [U.starts64, hy]) hpm
              obtain ⟨g5, rfl, c5⟩ := row_cell o5 (k := k + 1 + p) (u := .int .i32 (y.1 : Int)) (by simp [U.runes32, hd]) hil
              obtain ⟨g6, rfl, c6⟩ := row_cell o6 (k := k + 1 + p) (u := .int .i64 ((y.2 : Int) + (s.size : Int) + 1)) (by simp [U.starts64, hd]; omega) hil
              have e3 := c3 wr hbr
              have e4 := c4 wr hbr
              have e5 := c5 wr hbr
              have e6 := c6 wr hbr
              have hy2 := (U.units_bound t y (List.mem_of_getElem? hy)).2
              have hw1 : IntKind.i64.wrap (((k + 1 + p : Nat) : Int) - (k : Int)) = (p : Int) + 1 := by rw [IntKind.wrap_i64]; omega
              have hw2 : IntKind.i64.wrap ((p : Int) + 1 - 1) = (p : Int) := by rw [IntKind.wrap_i64]; omega
              have hpm' : (p : Int) < (m : Int) := by omega
              have hp0 : (0 : Int) ≤ (p : Int) := by omega
              have hik' : (k : Int) < ((k + 1 + p : Nat) : Int) := by omega
              clear c3 c4 c5 c6 o1 o2 o3 o4 o5 o6 hux hm hDl hy hd hbr
              have hkp : (k : Int) + 1 + (p : Int) - (k : Int) - 1 = (p : Int) := by omega
              go_wp2_with fail
              try rw [hkp]
              go_quiet (fail)
              go_wp2
              go_roundw
              case rel => exact ⟨k + 1 + p + 1, by go_num, by omega, below_drewN HBr.out _⟩
              case measure => simp [intOf]; omega
          · obtain rfl : i = k + 1 + m := by omega
            obtain ⟨hux, hm, hDl⟩ := HU.out
            obtain ⟨o1, o2, o3, o4, o5, o6⟩ := HR.out
            have hd : (U.units (s ++ U.xB ++ t))[k]? = some (120, s.size) := by
              rw [hux, List.getElem?_append_right (by rw [HN.out]; omega), HN.out, Nat.sub_self]
              rfl
            obtain ⟨g5, rfl, c5⟩ := row_cell o5 (k := k) (u := .int .i32 120) (by simp [U.runes32, hd]) (by omega)
            have e5 := c5 wr hbr
            have hkI : (k : Int) < (k : Int) + 1 + (m : Int) := by omega
            have hk0 : (0 : Int) ≤ (k : Int) := by omega
            clear c5 o1 o2 o3 o4 o5 o6 hux hm hDl hd hbr
            go_wp2
            go_ret
            exact ⟨rfl, HB4.out.trans (HBr.out.mono HB4.out.size)⟩
/-- The law, of texts of whatever length. -/
theorem parted_any (w : World) (s t : ByteArray) (hm : s.size ≤ maxLen) (ht : t.size ≤ 140737488351232) (hT : Tabs w) :
    Calls Tryz.prog 5 #[.string s, .string t] w fun e w' => e = .returned (.bool true) ∧ Below w.heap.size w w' := by
  by_cases hs : 1000 < s.size
  · exact parted_long w s t hs hm hT
  · exact parted_short w s t (by omega) ht hT
end Pr
end Go.Proofs.YtpgcidpghmoibaaGreatDoor
