/-
  THE WALK of the statement Words' law: it answers true of every text. Conditions: the library's tables lie in memory as the text lays them.
-/
import Derived.Test.YtpgcidpghmoibaaGreatDoorJ59
import Derived.Test.YtpgcidpghmoibaaGreatDoorJ55
import Derived.Test.YtpgcidpghmoibaaGreatDoorJ50
import Derived.Lib.QuietBelow
namespace Go.Proofs.YtpgcidpghmoibaaGreatDoor
namespace Pr
open Go.RowKit
open G (PNode)

set_option maxRecDepth 100000 in
theorem kind_any (c : Int) (w : World) : Calls Tryz.prog 29 #[.int .u8 c] w fun e w' => e = .returned (.int .i64 (G.kindN c)) ∧ w' = w := by
  unfold G.kindN
  by_cases h1 : 97 ≤ c ∧ c ≤ 122
  · rw [if_pos h1]
    obtain ⟨h2, h3⟩ := h1
    go_enter Tryz.func29, Tryz.ntmps29
    go_wp2
    go_ret
    exact ⟨rfl, rfl⟩
  · rw [if_neg h1]
    by_cases h2 : 48 ≤ c ∧ c ≤ 57
    · rw [if_pos h2]
      obtain ⟨h3, h4⟩ := h2
      have h5 : ¬ 97 ≤ c := by omega
      go_enter Tryz.func29, Tryz.ntmps29
      go_wp2
      go_ret
      exact ⟨rfl, rfl⟩
    · rw [if_neg h2]
      by_cases h3 : c = 32
      · subst h3
        rw [if_pos rfl]
        go_enter Tryz.func29, Tryz.ntmps29
        go_wp2
        go_ret
        exact ⟨rfl, rfl⟩
      · rw [if_neg h3]
        have hb : (c == 32) = false := by simpa using h3
        rcases Int.lt_or_le c 48 with a | a
        · have a1 : ¬ 97 ≤ c := by omega
          have a2 : ¬ 48 ≤ c := by omega
          clear h1 h2
          go_enter Tryz.func29, Tryz.ntmps29
          go_wp2
          go_ret
          exact ⟨rfl, rfl⟩
        · have a2 : ¬ c ≤ 57 := by omega
          rcases Int.lt_or_le c 97 with a3 | a3
          · have a1 : ¬ 97 ≤ c := by omega
            clear h1 h2
            go_enter Tryz.func29, Tryz.ntmps29
            go_wp2
            go_ret
            exact ⟨rfl, rfl⟩
          · have a4 : ¬ c ≤ 122 := by omega
            clear h1 h2
            go_enter Tryz.func29, Tryz.ntmps29
            go_wp2
            go_ret
            exact ⟨rfl, rfl⟩
theorem kind_grown (c : Int) (w : World) (d : Nat) (os : Array Obj) : Calls Tryz.prog 29 #[.int .u8 c] (Sort.grow (redrawn w d) os) fun e w'' => e = .returned (.int .i64 (G.kindN c)) ∧ ∃ p : Regrown, w'' = Sort.grow (redrawn w p.d) p.os :=
  Calls.regrown_of ((kind_any c _).mono (fun _ _ ⟨h1, h2⟩ => ⟨h1, by rw [h2]; exact Below.refl _ _⟩))

set_option maxRecDepth 100000 in
set_option maxHeartbeats 8000000 in
theorem lawo_any (w : World) (t : ByteArray) (ht : t.size ≤ maxLen) (hT : Tabs w) :
    Calls Tryz.prog 7 #[.string t] w fun e w' => e = .returned (.bool true) ∧ Below w.heap.size w w' := by
  go_enter Tryz.func7, Tryz.ntmps7
  go_wp2_with fail
  refine (begin_ru w hT).mono ?_
  rintro e w1 ⟨⟨b0, rfl, _⟩, hb1⟩
  have z1 := hb1.size
  go_wp2_with fail
  refine (comp_ok w1 G.wnB G.wnT G.wnQ (by decide) G.wn_src (by decide) (by rw [G.wn_size]; omega) (hT.below hb1)).mono ?_
  rintro e w2 ⟨hb2, b, _, rfl, hR⟩
  have z2 := hb2.size
  have hB2 : Below w.heap.size w w2 := hb1.trans (hb2.mono z1)
  clear hb1 hb2
  go_wp2_with fail
  refine (cut_all w2 b _ _ hR t ht).mono ?_
  rintro e w3 ⟨⟨v3, l, g, rfl, o3, hci⟩, hb3⟩
  have z3 := hb3.size
  have hB3 : Below w.heap.size w w3 := hB2.trans (hb3.mono (by omega))
  obtain ⟨a3, d3, hv3⟩ := Rf.own_len o3
  subst hv3
  have hfew := hci.few
  rcases hci with ⟨hs, rfl, hcut⟩ | ⟨hs, rfl, rfl⟩
  rotate_left
  · go_wp2
    go_ret
    exact ⟨rfl, hB3⟩
  · have hs' : ¬ (1000 : Int) < (t.size : Int) := by omega
    have HW : Hid (∀ x ∈ l, G.WSeg t x) := G.cut_words hR.wf hcut
    have HCH : Hid (G.Chain 0 l t.size) := hcut.chain0
    clear hcut hR hB2 hb3
    obtain ⟨n, hn⟩ : ∃ n, l.length = n := ⟨_, rfl⟩
    rw [hn] at o3 hfew ⊢
    have HN : Hid (l.length = n) := hn
    clear hn
    go_wp2_with fail
    go_loopw [9, 10] (fun va vk wr => ∃ k a : Nat, va = .int .i64 a ∧ vk = .int .i64 k ∧ k ≤ n ∧ (G.bnds 0 l)[k]? = some a ∧ Below w3.heap.size w3 wr) (fun _ vk _ => n - (intOf vk).toNat)
    case atStart => exact ⟨0, 0, rfl, rfl, Nat.zero_le _, rfl, Below.refl _ _⟩
    case round =>
      obtain ⟨k, a, rfl, rfl, hk, hBk, hbr⟩ := hrel
      have zr := hbr.size
      by_cases hlt : k < n
      · have hx : l[k]? = some (l[k]'(by rw [HN.out]; exact hlt)) := List.getElem?_eq_getElem _
        generalize l[k]'(by rw [HN.out]; exact hlt) = x at hx
        obtain ⟨g1, rfl, cs1⟩ := Rf.seg_to o3 hx hlt
        have hg := HCH.out.get k x hx
        have hxa : x.f = a := by have := hg.1.symm.trans hBk; simpa using this
        obtain ⟨ws1, ws2, ws3, ws4, ws5⟩ := HW.out x (List.mem_of_getElem? hx)
        have HG : Hid ((G.bnds 0 l)[k + 1]? = some x.t) := hg.2
        have HS : Hid _ := And.intro ws4 ws5
        obtain ⟨e0, e1, e2⟩ := cs1 wr hbr
        have HCS : Hid _ := cs1
        clear cs1 hx hg hBk ws4 ws5
        obtain ⟨xf, xt, xr⟩ := x
        simp only at *
        subst hxa
        have hfz : xf < t.size := by omega
        rw [← U.at_get t xf hfz] at ws1
        have q0 : ∀ d os, (Sort.grow (redrawn wr d) os).cell? ⟨g1, k * 3, none⟩ = some (.int .i64 (xf : Int)) := fun d os => cell_regrown e0 d os
        have q1 : ∀ d os, (Sort.grow (redrawn wr d) os).cell? ⟨g1, k * 3 + 1, none⟩ = some (.int .i64 (xt : Int)) := fun d os => cell_regrown e1 d os
        have q2 : ∀ d os, (Sort.grow (redrawn wr d) os).cell? ⟨g1, k * 3 + 2, none⟩ = some (.int .i64 xr) := fun d os => cell_regrown e2 d os
        have hN := kind_grown ((t[xf]'hfz).toNat : Int) wr
        rw [← ws1] at hN
        clear ws1
        have i1 : (k : Int) < (n : Int) := by omega
        have i2 : (0 : Int) ≤ (k : Int) := by omega
        have i3 : ¬ (t.size : Int) ≤ (xf : Int) := by omega
        have i4 : ¬ (xt : Int) ≤ (xf : Int) := by omega
        have i5 : ¬ (t.size : Int) < (xt : Int) := by omega
        have i6 : (xf : Int) < (t.size : Int) := by omega
        have i7 : (0 : Int) ≤ (xf : Int) := by omega
        go_wp2_with fail
        refine wp_region_quiet_below (by kernel_rfl) (by kernel_rfl) ?_
        repeat (first | go_big_quiet_step (exact hN _ _) | quiet_step (exact hN _ _))
        refine wpQuiet_nil ?_
        intro _ hw'
        obtain ⟨⟨dq, osq⟩, hw''⟩ := hw'
        subst hw''
        have hbq : Below w3.heap.size w3 (Sort.grow (redrawn wr dq) osq) := hbr.trans ((below_regrown wr dq osq).mono zr)
        clear hN q0 q1 q2 e0 e1 e2 hbr
        generalize Sort.grow (redrawn wr dq) osq = wq at hbq ⊢
        by_cases hr0 : 0 ≤ xr
        · obtain ⟨hrun, hstop⟩ := HS.out.1 hr0
          have HRUN : Hid _ := And.intro hrun hstop
          have hr1 : ¬ xr < 0 := by omega
          have hd0 : decide ((0 : Int) ≤ xr) = true := decide_eq_true hr0
          clear hrun hstop HS
          go_wp2_with fail
          go_loopw [11] (fun vj wr => ∃ p : Nat, vj = .int .i64 p ∧ xf + 1 ≤ p ∧ p ≤ xt ∧ Below w3.heap.size w3 wr) (fun vj _ => xt - (intOf vj).toNat)
          case atStart => exact ⟨xf + 1, by first | rfl | go_num, Nat.le_refl _, by omega, hbq⟩
          case round =>
            obtain ⟨p, rfl, hp1, hp2, hbr2⟩ := hrel
            have f2 := (HCS.out wr hbr2).2.2
            have p2 : ∀ d os, (Sort.grow (redrawn wr d) os).cell? ⟨g1, k * 3 + 2, none⟩ = some (.int .i64 xr) := fun d os => cell_regrown f2 d os
            by_cases hpt : p < xt
            · have hpz : p < t.size := by omega
              have hkp := HRUN.out.1 p (by omega) hpt
              rw [← U.at_get t p hpz] at hkp
              have hNp := kind_grown ((t[p]'hpz).toNat : Int) wr
              rw [hkp] at hNp
              have j1 : (p : Int) < (t.size : Int) := by omega
              have j2 : (0 : Int) ≤ (p : Int) := by omega
              clear hkp
              go_wp2_with fail
              refine wp_region_quiet_below (by kernel_rfl) (by kernel_rfl) ?_
              repeat (first | go_big_quiet_step (exact hNp _ _) | quiet_step (exact hNp _ _))
              refine wpQuiet_nil ?_
              intro _ hw'
              obtain ⟨⟨dq2, osq2⟩, hw''⟩ := hw'
              subst hw''
              have hb2' : Below w3.heap.size w3 (Sort.grow (redrawn wr dq2) osq2) := hbr2.trans ((below_regrown wr dq2 osq2).mono hbr2.size)
              generalize Sort.grow (redrawn wr dq2) osq2 = wy at hb2' ⊢
              go_wp2
              go_roundw
              case rel => exact ⟨p + 1, by go_num, by omega, by omega, hb2'⟩
              case measure => simp [intOf]; omega
            · obtain rfl : p = xt := by omega
              by_cases hpz : p < t.size
              · have hkp := HRUN.out.2 hpz
                rw [← U.at_get t p hpz] at hkp
                have hNp := kind_grown ((t[p]'hpz).toNat : Int) wr
                have j1 : (p : Int) < (t.size : Int) := by omega
                have j2 : (0 : Int) ≤ (p : Int) := by omega
                generalize G.kindN ((t[p]'hpz).toNat : Int) = kk at hkp hNp
                have hkb : (kk == xr) = false := by simpa using hkp
                clear hkp
                go_wp2_with fail
                refine wp_region_quiet_below (by kernel_rfl) (by kernel_rfl) ?_
                repeat (first | go_big_quiet_step (exact hNp _ _) | quiet_step (exact hNp _ _))
                refine wpQuiet_nil ?_
                intro _ hw'
                obtain ⟨⟨dq2, osq2⟩, hw''⟩ := hw'
                subst hw''
                have hb2' : Below w3.heap.size w3 (Sort.grow (redrawn wr dq2) osq2) := hbr2.trans ((below_regrown wr dq2 osq2).mono hbr2.size)
                generalize Sort.grow (redrawn wr dq2) osq2 = wy at hb2' ⊢
                obtain ⟨y0, y1, y2⟩ := HCS.out wy hb2'
                go_wp2
                go_roundw
                case rel => exact ⟨k + 1, p, rfl, by go_num, by omega, HG.out, hb2'⟩
                case measure => simp [intOf]; omega
              · have j1 : ¬ (p : Int) < (t.size : Int) := by omega
                have hNp := kind_grown 0 wr
                go_wp2_with fail
                refine wp_region_quiet_below (by kernel_rfl) (by kernel_rfl) ?_
                repeat (first | go_big_quiet_step (exact hNp _ _) | quiet_step (exact hNp _ _))
                refine wpQuiet_nil ?_
                intro _ hw'
                obtain ⟨⟨dq2, osq2⟩, hw''⟩ := hw'
                subst hw''
                have hb2' : Below w3.heap.size w3 (Sort.grow (redrawn wr dq2) osq2) := hbr2.trans ((below_regrown wr dq2 osq2).mono hbr2.size)
                generalize Sort.grow (redrawn wr dq2) osq2 = wy at hb2' ⊢
                obtain ⟨y0, y1, y2⟩ := HCS.out wy hb2'
                go_wp2
                go_roundw
                case rel => exact ⟨k + 1, p, rfl, by go_num, by omega, HG.out, hb2'⟩
                case measure => simp [intOf]; omega
        · have hr1 : xr < 0 := by omega
          have hd0 : decide ((0 : Int) ≤ xr) = false := decide_eq_false (by omega)
          have hone := HS.out.2 hr1
          have HONE : Hid _ := hone
          clear HS hone
          go_wp2_with fail
          go_loopw [11] (fun vj wr => vj = .int .i64 ((xf : Int) + 1) ∧ Below w3.heap.size w3 wr) (fun _ _ => 0)
          case atStart => exact ⟨by first | rfl | go_num, hbq⟩
          case round =>
            obtain ⟨rfl, hbr2⟩ := hrel
            have f2 := (HCS.out wr hbr2).2.2
            have p2 : ∀ d os, (Sort.grow (redrawn wr d) os).cell? ⟨g1, k * 3 + 2, none⟩ = some (.int .i64 xr) := fun d os => cell_regrown f2 d os
            have hNp := kind_grown 0 wr
            by_cases hpz : xf + 1 < t.size
            · have j1 : (xf : Int) + 1 < (t.size : Int) := by omega
              go_wp2_with fail
              refine wp_region_quiet_below (by kernel_rfl) (by kernel_rfl) ?_
              repeat (first | go_big_quiet_step (exact hNp _ _) | quiet_step (exact hNp _ _))
              refine wpQuiet_nil ?_
              intro _ hw'
              obtain ⟨⟨dq2, osq2⟩, hw''⟩ := hw'
              subst hw''
              have hb2' : Below w3.heap.size w3 (Sort.grow (redrawn wr dq2) osq2) := hbr2.trans ((below_regrown wr dq2 osq2).mono hbr2.size)
              generalize Sort.grow (redrawn wr dq2) osq2 = wy at hb2' ⊢
              obtain ⟨y0, y1, y2⟩ := HCS.out wy hb2'
              have m1 : (xf : Int) ≤ (xt : Int) := by omega
              have m2 : (xt : Int) ≤ (t.size : Int) := by omega
              go_wp2_with fail
              refine (units_short (t.extract xf xt) wy (by rw [ByteArray.size_extract]; omega)).mono ?_
              rintro e w9 ⟨v1, v2, rfl, o1, o2, hb9⟩
              have z9 := hb9.size
              rw [HONE.out] at o1
              obtain ⟨r1, r2, hv1⟩ := Rf.own_len o1
              subst hv1
              have hb9' : Below w3.heap.size w3 w9 := hb2'.trans (hb9.mono hb2'.size)
              obtain ⟨x0, x1, x2⟩ := HCS.out w9 hb9'
              clear o1 o2 y0 y1 y2
              go_wp2
              go_roundw
              case rel => exact ⟨k + 1, xt, rfl, by go_num, by omega, HG.out, hb9'⟩
              case measure => simp [intOf]; omega
            · have j1 : ¬ (xf : Int) + 1 < (t.size : Int) := by omega
              have jd : decide ((xf : Int) + 1 < (t.size : Int)) = false := decide_eq_false j1
              go_wp2_with fail
              refine wp_region_quiet_below (by kernel_rfl) (by kernel_rfl) ?_
              repeat (first | go_big_quiet_step (exact hNp _ _) | quiet_step (exact hNp _ _))
              refine wpQuiet_nil ?_
              intro _ hw'
              obtain ⟨⟨dq2, osq2⟩, hw''⟩ := hw'
              subst hw''
              have hb2' : Below w3.heap.size w3 (Sort.grow (redrawn wr dq2) osq2) := hbr2.trans ((below_regrown wr dq2 osq2).mono hbr2.size)
              generalize Sort.grow (redrawn wr dq2) osq2 = wy at hb2' ⊢
              obtain ⟨y0, y1, y2⟩ := HCS.out wy hb2'
              have m1 : (xf : Int) ≤ (xt : Int) := by omega
              have m2 : (xt : Int) ≤ (t.size : Int) := by omega
              go_wp2_with fail
              refine (units_short (t.extract xf xt) wy (by rw [ByteArray.size_extract]; omega)).mono ?_
              rintro e w9 ⟨v1, v2, rfl, o1, o2, hb9⟩
              have z9 := hb9.size
              rw [HONE.out] at o1
              obtain ⟨r1, r2, hv1⟩ := Rf.own_len o1
              subst hv1
              have hb9' : Below w3.heap.size w3 w9 := hb2'.trans (hb9.mono hb2'.size)
              obtain ⟨x0, x1, x2⟩ := HCS.out w9 hb9'
              clear o1 o2 y0 y1 y2
              go_wp2
              go_roundw
              case rel => exact ⟨k + 1, xt, rfl, by go_num, by omega, HG.out, hb9'⟩
              case measure => simp [intOf]; omega
      · obtain rfl : k = n := by omega
        have haz : a = t.size := by
          have h1 := HCH.out.last
          rw [HN.out] at h1
          have := hBk.symm.trans h1
          simpa using this
        subst haz
        go_wp2
        go_ret
        exact ⟨by first | rfl | simp, hB3.trans (hbr.mono (by have := hB3.size; omega))⟩
end Pr
end Go.Proofs.YtpgcidpghmoibaaGreatDoor
