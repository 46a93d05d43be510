/-
  THE WALK of the statement Walks' law: it answers true of every source, text and place. Conditions: the library's tables lie in memory as the text lays them.
-/
import Derived.Test.YtpgcidpghmoibaaGreatDoorJ57
import Derived.Test.YtpgcidpghmoibaaGreatDoorJ50
import Derived.Test.YtpgcidpghmoibaaGreatDoorJ52
import Derived.Test.YtpgcidpghmoibaaGreatDoorJ55
import Derived.Deep.Cut
import Derived.Deep.CutRange
import Derived.Deep.RegionWith
namespace Go.Proofs.YtpgcidpghmoibaaGreatDoor
namespace Pr
open Go.RowKit
open Cs
open G (PNode)

theorem beqI (a b : Int) : (a == b) = decide (a = b) := by by_cases h : a = b <;> simp [h]
theorem keptN {p : Nat → Prop} {N : Nat} {a b w : World} (h : Below N a b) (hk : Rf.Kept p b w) (hN : N ≤ b.heap.size) (hp : ∀ k, k < N → p k) : Below N a w :=
  ⟨hk.os.trans h.os, hk.tape.trans h.tape, hk.output.trans h.output, Nat.le_trans h.size hk.size, fun k hk2 => (hk.block k (Nat.lt_of_lt_of_le hk2 hN) (hp k hk2)).trans (h.block k hk2)⟩

set_option maxRecDepth 100000 in
set_option maxHeartbeats 40000000 in
theorem laww_any (w : World) (s t : ByteArray) (i : Int) (hm : s.size ≤ maxLen) (ht : t.size ≤ maxLen) (hT : Tabs w) :
    Calls Tryz.prog 10 #[.string s, .string t, .int .i64 i] w fun e w' => e = .returned (.bool true) ∧ Below w.heap.size w w' := by
  go_enter Tryz.func10, Tryz.ntmps10
  go_wp2_with fail
  refine (begin_ru w hT).mono ?_
  rintro e w1 ⟨⟨b0, rfl, _⟩, hb1⟩
  have z1 := hb1.size
  go_wp2_with fail
  refine (comp_all w1 s hm (hT.below hb1)).mono ?_
  rintro e w2 ⟨hb2, ⟨p, c, hc, rfl⟩ | ⟨b, T, Q, _, _, _, rfl, hR⟩⟩
  · have hcb : ((c : Int) != 0) = true := by simp; omega
    go_wp2
    go_ret
    exact ⟨rfl, hb1.trans (hb2.mono z1)⟩
  · have z2 := hb2.size
    have hB2 : Below w.heap.size w w2 := hb1.trans (hb2.mono z1)
    clear hb1 hb2
    by_cases hs : 1000 < t.size
    · go_wp2_with fail
      refine (pcut_long w2 b t hs ht).mono ?_
      rintro e w3 ⟨rfl, rfl⟩
      go_wp2_with fail
      refine (pover_long w3 b t hs ht).mono ?_
      rintro e w4 ⟨rfl, rfl⟩
      go_wp2
      go_ret
      exact ⟨congrArg (fun x => Ending.returned (Value.bool x)) (decide_eq_true (show (1000 : Int) < (t.size : Int) by omega)), hB2⟩
    · have hs' : t.size ≤ 1000 := by omega
      obtain ⟨m1, I1, v1, V1, P1, f1, hp⟩ := hR.pin
      go_wp2_with fail
      refine (pcut_short w2 b m1 I1 v1 V1 T Q P1 f1 hp t hs').mono ?_
      rintro e w3 ⟨⟨v3, l, rfl, hcut, o3⟩, hb3⟩
      have z3 := hb3.size
      have o3 := Rf.own_zero o3
      obtain ⟨a3, d3, hv3⟩ := Rf.own_len o3
      subst hv3
      have hp3 := hp.below hb3
      clear hp hR
      go_wp2_with fail
      refine (pover_short w3 b m1 I1 v1 V1 T Q P1 f1 hp3 t hs').mono ?_
      rintro e w4 ⟨⟨c, v4, l', rfl, hcut', hC4, hcl, hvl⟩, hb4⟩
      obtain rfl := hcut.one hcut'
      have z4 := hb4.size
      have hBn := Rf.cut_bn hcut hs'
      have hch := hcut.chain0
      have hB3 : Below w.heap.size w w3 := hB2.trans (hb3.mono (by omega))
      have hfew := Rf.cut_few hcut
      have hul := U.units_length t
      rw [G.us_len] at hfew
      have HCU : Hid (G.CutR T Q t 0 l) := hcut
      have HCH : Hid (G.Chain 0 l t.size) := hch
      have HB : Hid (Below w.heap.size w w3) := hB3
      have hB0 : (G.bnds 0 l)[0]? = some 0 := rfl
      have hBl := G.bnds_len 0 l
      clear hcut hcut' hch hB2 hB3 hb3
      obtain ⟨B, hBe⟩ : ∃ B, G.bnds 0 l = B := ⟨_, rfl⟩
      rw [hBe] at hC4 hBn hB0 hBl
      have HBE : Hid (G.bnds 0 l = B) := hBe
      clear hBe
      obtain ⟨n, hn⟩ : ∃ n, l.length = n := ⟨_, rfl⟩
      rw [hn] at o3 hfew hBl ⊢
      have HN : Hid (l.length = n) := hn
      clear hn
      go_wp2_with fail
      go_loopw [15, 16] (fun va vk wr => ∃ k a : Nat, va = .int .i64 a ∧ vk = .int .i64 k ∧ k ≤ n ∧ B[k]? = some a ∧ Cu 131 wr c v4 B a ∧ Below w3.heap.size w3 wr) (fun _ vk _ => n - (intOf vk).toNat)
      case atStart => exact ⟨0, 0, rfl, rfl, Nat.zero_le _, hB0, hC4, hb4⟩
      case round =>
        obtain ⟨k, a, rfl, rfl, hk, hBk, hC, hbr⟩ := hrel
        have zr := hbr.size
        by_cases hlt : k < n
        · have hx : l[k]? = some (l[k]'(by rw [HN.out]; exact hlt)) := List.getElem?_eq_getElem _
          generalize l[k]'(by rw [HN.out]; exact hlt) = x at hx
          obtain ⟨g1, rfl, cs1⟩ := Rf.seg_to o3 hx hlt
          obtain ⟨a0, a1, a2⟩ := cs1 wr hbr
          have hg := HCH.out.get k x hx
          rw [HBE.out] at hg
          have hxa : x.f = a := by have := hg.1.symm.trans hBk; simpa using this
          have hlt2 := (HCH.out.above x (List.mem_of_getElem? hx)).2.2.1
          have HMS : Hid (∀ g, Rf.MatchV T Q t (x.f : Int) g → g.f = x.f ∧ ((0 ≤ x.r ∧ g = x) ∨ (x.r < 0 ∧ g.t = g.f ∧ g.r = -1))) := fun g hg => G.match_seg HCU.out (List.mem_of_getElem? hx) hg
          have HAB : Hid (G.AboveIs B (a : Int) (x.t : Int)) := G.above_next hBn.asc hBk hg.2
          have HG : Hid (B[k + 1]? = some x.t) := hg.2
          clear cs1 hx hg hBk
          obtain ⟨xf, xt, xr⟩ := x
          simp only at *
          subst hxa
          have hle : ¬ (xt : Int) ≤ (xf : Int) := by omega
          obtain ⟨wA, hwA⟩ : ∃ wA, wA = wr.alloc (.cells #[.int .i64 (xf : Int), .int .i64 (xt : Int), .int .i64 xr] 65) := ⟨_, rfl⟩
          have hm17 := heap_alloc_new wr (.cells #[.int .i64 (xf : Int), .int .i64 (xt : Int), .int .i64 xr] 65)
          rw [← hwA] at hm17
          have s0 := Rf.cell_blk hm17 0 (.int .i64 (xf : Int)) rfl
          have hbA : Below wr.heap.size wr wA := by rw [hwA]; exact (Below.refl _ _).alloc (Nat.le_refl _) _
          have hCA := hC.below hbA
          have hbA3 : Below w3.heap.size w3 wA := hbr.trans (hbA.mono zr)
          have zA := hbA.size
          go_wp2_with fail
          rw [← hwA]
          refine (pmatch_short wA b m1 I1 v1 V1 T Q P1 f1 (hp3.below hbA3) t (xf : Int) hs').mono ?_
          rintro e w5 ⟨⟨g, hgm, rfl⟩, hb5⟩
          have z5 := hb5.size
          obtain ⟨gf, gt, gr⟩ := g
          obtain ⟨hgf, hgc⟩ := HMS.out _ hgm
          simp only at hgf hgc
          subst hgf
          clear s0 hgm a0 a1 a2 hwA
          rcases hgc with ⟨hxr, hge⟩ | ⟨hxr, hgt, hgr⟩
          · simp only [G.Seg.mk.injEq, true_and] at hge
            obtain ⟨rfl, rfl⟩ := hge
            have hxn : ¬ gr < 0 := by omega
            have hmA : (w5.alloc (.cells #[.int .i64 (gf : Int), .int .i64 (gt : Int), .int .i64 gr] 65)).heap[w5.heap.size]? = _ := heap_alloc_new w5 (.cells #[.int .i64 (gf : Int), .int .i64 (gt : Int), .int .i64 gr] 65)
            have hsA : (w5.alloc (.cells #[.int .i64 (gf : Int), .int .i64 (gt : Int), .int .i64 gr] 65)).heap[wr.heap.size]? = _ := Rf.blk_alloc _ ((hb5.block _ (lt_of_block hm17)).trans hm17)
            have hb6 : Below wA.heap.size wA (w5.alloc (.cells #[.int .i64 (gf : Int), .int .i64 (gt : Int), .int .i64 gr] 65)) := hb5.alloc z5 _
            have hz56 : wr.heap.size < w5.heap.size := Nat.lt_of_lt_of_le (lt_of_block hm17) z5
            have s0 := Rf.cell_blk hsA 0 (.int .i64 (gf : Int)) rfl
            have s1 := Rf.cell_blk hsA 1 (.int .i64 (gt : Int)) rfl
            have s2 := Rf.cell_blk hsA 2 (.int .i64 gr) rfl
            have q0 := Rf.cell_blk hmA 0 (.int .i64 (gf : Int)) rfl
            have q1 := Rf.cell_blk hmA 1 (.int .i64 (gt : Int)) rfl
            have q2 := Rf.cell_blk hmA 2 (.int .i64 gr) rfl
            have hC6 := hCA.below hb6
            have hb63 := hbA3.trans (hb6.mono (by omega))
            clear hmA hsA hb6 hm17 hbA hbA3 hCA hC
            have heq := eqSeg (gf : Int) (gt : Int) gr (gf : Int) (gt : Int) gr
            go_wp2_with fail
            refine (pnext_any _ c v4 B gf hC6 hBn).mono ?_
            rintro e w7 ⟨r7, hr7, rfl, hC7, k7⟩
            obtain rfl := hr7.one HAB.out
            rw [G.stand_nat] at hC7
            have hb7 : Below w3.heap.size w3 w7 := keptN hb63 k7 (by simp; omega) (fun k hk => by omega)
            clear s0 s1 s2 q0 q1 q2 hC6 hb63 k7 hr7
            go_wp2
            go_roundw
            case rel => exact ⟨k + 1, gt, rfl, by go_num, by omega, HG.out, hC7, hb7⟩
            case measure => simp [intOf]; omega
          · subst hgt hgr
            have hxn : ¬ (0 : Int) ≤ xr := by omega
            have hmA : (w5.alloc (.cells #[.int .i64 (gt : Int), .int .i64 (gt : Int), .int .i64 (-1)] 65)).heap[w5.heap.size]? = _ := heap_alloc_new w5 (.cells #[.int .i64 (gt : Int), .int .i64 (gt : Int), .int .i64 (-1)] 65)
            have hsA : (w5.alloc (.cells #[.int .i64 (gt : Int), .int .i64 (gt : Int), .int .i64 (-1)] 65)).heap[wr.heap.size]? = _ := Rf.blk_alloc _ ((hb5.block _ (lt_of_block hm17)).trans hm17)
            have hb6 : Below wA.heap.size wA (w5.alloc (.cells #[.int .i64 (gt : Int), .int .i64 (gt : Int), .int .i64 (-1)] 65)) := hb5.alloc z5 _
            have hz56 : wr.heap.size < w5.heap.size := Nat.lt_of_lt_of_le (lt_of_block hm17) z5
            have s0 := Rf.cell_blk hsA 0 (.int .i64 (gt : Int)) rfl
            have s1 := Rf.cell_blk hsA 1 (.int .i64 (xt : Int)) rfl
            have s2 := Rf.cell_blk hsA 2 (.int .i64 xr) rfl
            have q0 := Rf.cell_blk hmA 0 (.int .i64 (gt : Int)) rfl
            have q1 := Rf.cell_blk hmA 1 (.int .i64 (gt : Int)) rfl
            have q2 := Rf.cell_blk hmA 2 (.int .i64 (-1)) rfl
            have hC6 := hCA.below hb6
            have hb63 := hbA3.trans (hb6.mono (by omega))
            clear hmA hsA hb6 hm17 hbA hbA3 hCA hC
            go_wp2_with fail
            refine (pnext_any _ c v4 B gt hC6 hBn).mono ?_
            rintro e w7 ⟨r7, hr7, rfl, hC7, k7⟩
            obtain rfl := hr7.one HAB.out
            rw [G.stand_nat] at hC7
            have hb7 : Below w3.heap.size w3 w7 := keptN hb63 k7 (by simp; omega) (fun k hk => by omega)
            clear s0 s1 s2 q0 q1 q2 hC6 hb63 k7 hr7
            go_wp2
            go_roundw
            case rel => exact ⟨k + 1, xt, rfl, by go_num, by omega, HG.out, hC7, hb7⟩
            case measure => simp [intOf]; omega
        · obtain rfl : k = n := by omega
          have haz : a = t.size := by
            have h1 := HCH.out.last
            rw [HBE.out, HN.out] at h1
            have := hBk.symm.trans h1
            simpa using this
          subst haz
          have hab : G.AboveIs B (t.size : Int) (-1) := G.above_last hBn.asc hBk hBl
          have hBz : B[B.length - 1]? = some t.size := by rw [hBl]; exact hBk
          go_wp2_with fail
          refine (pnext_any wr c v4 B t.size hC hBn).mono ?_
          rintro e w5 ⟨r5, hr5, rfl, hC5, k5⟩
          obtain rfl := hr5.one hab
          rw [G.stand_no] at hC5
          have hb5 : Below w3.heap.size w3 w5 := keptN hbr k5 (by omega) (fun k hk => by omega)
          have z5 := hb5.size
          clear hC hbr k5 hr5 hab
          go_wp2_with fail
          refine (pcur_any w5 c v4 B t.size hC5).mono ?_
          rintro e w5' ⟨rfl, rfl⟩
          go_wp2_with fail
          refine (plast_any w5' c v4 B t.size t.size hC5 hBn hBz).mono ?_
          rintro e w6 ⟨rfl, hC6, k6⟩
          rw [G.stand_nat] at hC6
          have hb6 : Below w3.heap.size w3 w6 := keptN hb5 k6 (by omega) (fun k hk => by omega)
          have z6 := hb6.size
          clear hC5 hb5 k6 hBz
          go_wp2_with fail
          refine (within_any w6 b m1 I1 v1 V1 T Q P1 f1 (hp3.below hb6) t hs').mono ?_
          rintro e w7 ⟨rfl, hb7⟩
          have z7 := hb7.size
          have hC7 := hC6.below hb7
          have hb37 : Below w3.heap.size w3 w7 := hb6.trans (hb7.mono z6)
          clear hC6 hb6 hb7 HCU hp3
          have hkI : IntKind.i64.wrap ((k : Int) - 1) = (k : Int) - 1 := by rw [IntKind.wrap_i64]; omega
          go_wp2_with fail
          go_loopw [21, 22, 23] (fun va vb vk wr => ∃ (j cu : Nat) (A D : Int), va = .int .i64 A ∧ vb = .int .i64 D ∧ vk = .int .i64 ((j : Int) - 1) ∧ j ≤ k ∧ B[j]? = some cu ∧ G.AbK l i j A ∧ G.BeK l i j D ∧ Cu 131 wr c v4 B cu ∧ Below w3.heap.size w3 wr) (fun _ _ vk _ => (intOf vk + 1).toNat)
          case atStart => exact ⟨k, t.size, -1, -1, rfl, rfl, by first | rfl | go_num, Nat.le_refl _, hBk, by have := G.AbK.start l i; rw [HN.out] at this; exact this, by have := G.BeK.start l i; rw [HN.out] at this; exact this, hC7, hb37⟩
          case round =>
            obtain ⟨j, cu, A, D, rfl, rfl, rfl, hjk, hBj, hAb, hBe, hC, hbr⟩ := hrel
            have zr2 := hbr.size
            by_cases hj : 0 < j
            · obtain ⟨p, rfl⟩ : ∃ p, j = p + 1 := ⟨j - 1, by omega⟩
              have hje : ((p + 1 : Nat) : Int) - 1 = (p : Int) := by omega
              rw [hje]
              have hpk : p < k := by omega
              have hx : l[p]? = some (l[p]'(by rw [HN.out]; exact hpk)) := List.getElem?_eq_getElem _
              generalize l[p]'(by rw [HN.out]; exact hpk) = x at hx
              obtain ⟨g1, rfl, cs1⟩ := Rf.seg_to o3 hx hpk
              have hg := HCH.out.get p x hx
              rw [HBE.out] at hg
              have hbp : G.BelowIs B (cu : Int) (x.f : Int) := G.below_prev hBn.asc hg.1 hBj
              have hpI : (p : Int) < (k : Int) := by omega
              have hp0 : (0 : Int) ≤ (p : Int) := by omega
              have hCd : Cu 131 wr.drew c v4 B cu := hC.same (fun _ _ => rfl)
              have hbd : Below w3.heap.size w3 wr.drew := hbr.drew
              have e0 := (cs1 wr.drew hbd).1
              have hPv := pprev_any wr.drew c v4 B cu hCd hBn
              have HG : Hid (B[p]? = some x.f) := hg.1
              clear hg hBj hC hbr hCd
              obtain ⟨xf, xt, xr⟩ := x
              simp only at *
              go_upto_region 36 with fail
              go_cut [187] from 176 to 215 (fun vb wx => vb = .bool false ∧ Cu 131 wx c v4 B xf ∧ Below w3.heap.size w3 wx)
              case first =>
                go_region_with (go_at_call 40; refine hPv.mono ?_; rintro e w8 ⟨r8, hr8, rfl, hC8, k8⟩; obtain rfl := hr8.one hbp; rw [G.stand_nat] at hC8; have hb8 : Below w3.heap.size w3 w8 := keptN hbd k8 hbd.size (fun k hk => by omega); have f0 := (cs1 w8 hb8).1)
                all_goals (try go_wp2_with fail)
                all_goals go_meet
                all_goals exact ⟨by first | rfl | simp, hC8, hb8⟩
              case rest =>
                obtain ⟨rfl, hC8, hb8⟩ := hcut
                obtain ⟨f0, f1, _⟩ := cs1 wc hb8
                clear hPv hbp cs1 hbd e0
                by_cases hA : i < (xt : Int)
                · have HAB : Hid _ := hAb.yes hx hA
                  rcases hBe.nat with rfl | hD
                  · by_cases hF : (xf : Int) < i
                    · have HBE2 : Hid _ := hBe.yes (by omega) hx hF
                      clear hAb hBe hx
                      go_wp2
                      go_roundw
                      case rel => exact ⟨p, xf, (xt : Int), (xf : Int), rfl, rfl, by go_num, by omega, HG.out, HAB.out, HBE2.out, hC8, hb8⟩
                      case measure => first | (simp [intOf]; done) | (simp [intOf]; omega)
                    · have HBE2 : Hid _ := hBe.no hx (.inr hF)
                      clear hAb hBe hx
                      go_wp2
                      go_roundw
                      case rel => exact ⟨p, xf, (xt : Int), (-1), rfl, rfl, by go_num, by omega, HG.out, HAB.out, HBE2.out, hC8, hb8⟩
                      case measure => first | (simp [intOf]; done) | (simp [intOf]; omega)
                  · have HBE2 : Hid _ := hBe.no hx (.inl hD)
                    have hD0 : ¬ D < 0 := by omega
                    clear hAb hBe hx
                    go_wp2
                    go_roundw
                    case rel => exact ⟨p, xf, (xt : Int), D, rfl, rfl, by go_num, by omega, HG.out, HAB.out, HBE2.out, hC8, hb8⟩
                    case measure => first | (simp [intOf]; done) | (simp [intOf]; omega)
                · have HAB : Hid _ := hAb.no hx hA
                  rcases hBe.nat with rfl | hD
                  · by_cases hF : (xf : Int) < i
                    · have HBE2 : Hid _ := hBe.yes (by omega) hx hF
                      clear hAb hBe hx
                      go_wp2
                      go_roundw
                      case rel => exact ⟨p, xf, A, (xf : Int), rfl, rfl, by go_num, by omega, HG.out, HAB.out, HBE2.out, hC8, hb8⟩
                      case measure => first | (simp [intOf]; done) | (simp [intOf]; omega)
                    · have HBE2 : Hid _ := hBe.no hx (.inr hF)
                      clear hAb hBe hx
                      go_wp2
                      go_roundw
                      case rel => exact ⟨p, xf, A, (-1), rfl, rfl, by go_num, by omega, HG.out, HAB.out, HBE2.out, hC8, hb8⟩
                      case measure => first | (simp [intOf]; done) | (simp [intOf]; omega)
                  · have HBE2 : Hid _ := hBe.no hx (.inl hD)
                    have hD0 : ¬ D < 0 := by omega
                    clear hAb hBe hx
                    go_wp2
                    go_roundw
                    case rel => exact ⟨p, xf, A, D, rfl, rfl, by go_num, by omega, HG.out, HAB.out, HBE2.out, hC8, hb8⟩
                    case measure => first | (simp [intOf]; done) | (simp [intOf]; omega)
            · obtain rfl : j = 0 := by omega
              have hje : ((0 : Nat) : Int) - 1 = -1 := rfl
              rw [hje]
              have HAF : Hid (∀ r, G.AboveIs B i r → r = if i < 0 then 0 else A) := fun r hr => hAb.fin HCH.out (by rw [HBE.out]; exact hr)
              have HBF : Hid (∀ r, G.BelowIs B i r → r = if (t.size : Int) < i then (t.size : Int) else D) := fun r hr => hBe.fin HCH.out (by rw [HBE.out]; exact hr)
              clear hAb hBe hBj
              by_cases hi0 : i < 0
              · have hi1 : ¬ (t.size : Int) < i := by omega
                have hz : (i == 0) = false := by simp; omega
                have HST0 : Hid (G.isK l t.size i 0 = (i == (t.size : Int))) := by show G.isK l t.size i 0 = _; simp [G.isK, beqI, show ¬ i = 0 by omega]
                go_wp2_with fail
                refine (pisB_any wr c v4 B cu hC hBn i).mono ?_
                rintro e wr' ⟨rfl, rfl⟩
                go_wp2_with fail
                refine (pfollow_any wr' c v4 B cu hC hBn i).mono ?_
                rintro e w8 ⟨r8, hr8, rfl, hC8, k8⟩
                have hb8 : Below w3.heap.size w3 w8 := keptN hbr k8 (by omega) (fun k hk => by omega)
                have z8 := hb8.size
                have hE8 : 0 = r8 := by have := HAF.out r8 hr8; rw [if_pos (by omega)] at this; exact this.symm
                subst hE8
                clear hr8
                go_wp2_with fail
                refine (ppreced_any w8 c v4 B _ hC8 hBn i).mono ?_
                rintro e w9 ⟨r9, hr9, rfl, hC9, k9⟩
                have hb9 : Below w3.heap.size w3 w9 := keptN hb8 k9 (by omega) (fun k hk => by omega)
                have z9 := hb9.size
                have hE9 : D = r9 := by have := HBF.out r9 hr9; rw [if_neg (by omega)] at this; exact this.symm
                subst hE9
                generalize G.stand (G.stand cu 0) D = cu9 at hC9
                clear hr9 hC8 hb8 k8 k9 hC hbr HAF HBF
                go_wp2_with fail
                go_loopw [27, 28] (fun vb vk wr => ∃ j : Nat, vb = .bool (G.isK l t.size i j) ∧ vk = .int .i64 j ∧ j ≤ k ∧ wr = w9) (fun _ vk _ => k - (intOf vk).toNat)
                case atStart => exact ⟨0, congrArg Value.bool HST0.out.symm, rfl, Nat.zero_le _, rfl⟩
                case round =>
                  obtain ⟨j, rfl, rfl, hjk2, rfl⟩ := hrel
                  by_cases hj2 : j < k
                  · have hx : l[j]? = some (l[j]'(by rw [HN.out]; exact hj2)) := List.getElem?_eq_getElem _
                    generalize l[j]'(by rw [HN.out]; exact hj2) = x at hx
                    obtain ⟨g1, rfl, cs1⟩ := Rf.seg_to o3 hx hj2
                    have e0 := (cs1 wr hb9).1
                    have hst := G.isK_step (z := t.size) (i := i) hx
                    have hjI : (j : Int) < (k : Int) := by omega
                    have hj0 : (0 : Int) ≤ (j : Int) := by omega
                    clear cs1 hx
                    cases his : G.isK l t.size i j
                    · rw [his, Bool.false_or] at hst
                      have HST : Hid _ := hst
                      clear hst his
                      go_wp2
                      go_roundw
                      case rel => exact ⟨j + 1, by rw [HST.out]; exact congrArg Value.bool (beqI _ _), by go_num, by omega, by first | rfl | trivial⟩
                      case measure => simp [intOf]; omega
                    · rw [his, Bool.true_or] at hst
                      have HST : Hid _ := hst
                      clear hst his
                      go_wp2
                      go_roundw
                      case rel => exact ⟨j + 1, by rw [HST.out], by go_num, by omega, by first | rfl | trivial⟩
                      case measure => simp [intOf]; omega
                  · obtain rfl : j = k := by omega
                    have hwas : Cs.isB B i = G.isK l t.size i j := by rw [← HBE.out, ← HN.out]; exact G.isK_fin HCH.out
                    rw [hwas]
                    by_cases ht0 : t.size = 0
                    · have hbz : ((t.size : Int) == 0) = true := by simpa using ht0
                      have hl0 : G.isK l t.size i j = (i == 0) := by
                        have hle := HCH.out
                        cases l with
                        | nil => simp [G.isK, ht0, beqI]
                        | cons y l' => have h1 := hle.above y (by simp); omega
                      rw [hl0]
                      clear hwas hl0
                      go_wp2
                      go_ret
                      exact ⟨by first | rfl | simp, (HB.out.trans (hb9.mono (by have := HB.out.size; omega)))⟩
                    · have hbz : ((t.size : Int) == 0) = false := by simpa using ht0
                      clear hwas
                      generalize G.isK l t.size i j = bb
                      go_wp2_with fail
                      refine (pfirst_any wr c v4 B cu9 hC9 hBn).mono ?_
                      rintro e w10 ⟨rfl, hC10, k10⟩
                      have hb10 : Below w3.heap.size w3 w10 := keptN hb9 k10 (by omega) (fun k hk => by omega)
                      go_wp2
                      go_ret
                      exact ⟨by first | rfl | simp, (HB.out.trans (hb10.mono (by have := HB.out.size; omega)))⟩
              · by_cases hi1 : (t.size : Int) < i
                · have hz : (i == 0) = false := by simp; omega
                  have HST0 : Hid (G.isK l t.size i 0 = (i == (t.size : Int))) := by show G.isK l t.size i 0 = _; simp [G.isK, beqI, show ¬ i = 0 by omega]
                  go_wp2_with fail
                  refine (pisB_any wr c v4 B cu hC hBn i).mono ?_
                  rintro e wr' ⟨rfl, rfl⟩
                  go_wp2_with fail
                  refine (pfollow_any wr' c v4 B cu hC hBn i).mono ?_
                  rintro e w8 ⟨r8, hr8, rfl, hC8, k8⟩
                  have hb8 : Below w3.heap.size w3 w8 := keptN hbr k8 (by omega) (fun k hk => by omega)
                  have z8 := hb8.size
                  have hE8 : A = r8 := by have := HAF.out r8 hr8; rw [if_neg (by omega)] at this; exact this.symm
                  subst hE8
                  clear hr8
                  go_wp2_with fail
                  refine (ppreced_any w8 c v4 B _ hC8 hBn i).mono ?_
                  rintro e w9 ⟨r9, hr9, rfl, hC9, k9⟩
                  have hb9 : Below w3.heap.size w3 w9 := keptN hb8 k9 (by omega) (fun k hk => by omega)
                  have z9 := hb9.size
                  have hE9 : (t.size : Int) = r9 := by have := HBF.out r9 hr9; rw [if_pos (by omega)] at this; exact this.symm
                  subst hE9
                  generalize G.stand (G.stand cu A) (t.size : Int) = cu9 at hC9
                  clear hr9 hC8 hb8 k8 k9 hC hbr HAF HBF
                  go_wp2_with fail
                  go_loopw [27, 28] (fun vb vk wr => ∃ j : Nat, vb = .bool (G.isK l t.size i j) ∧ vk = .int .i64 j ∧ j ≤ k ∧ wr = w9) (fun _ vk _ => k - (intOf vk).toNat)
                  case atStart => exact ⟨0, congrArg Value.bool HST0.out.symm, rfl, Nat.zero_le _, rfl⟩
                  case round =>
                    obtain ⟨j, rfl, rfl, hjk2, rfl⟩ := hrel
                    by_cases hj2 : j < k
                    · have hx : l[j]? = some (l[j]'(by rw [HN.out]; exact hj2)) := List.getElem?_eq_getElem _
                      generalize l[j]'(by rw [HN.out]; exact hj2) = x at hx
                      obtain ⟨g1, rfl, cs1⟩ := Rf.seg_to o3 hx hj2
                      have e0 := (cs1 wr hb9).1
                      have hst := G.isK_step (z := t.size) (i := i) hx
                      have hjI : (j : Int) < (k : Int) := by omega
                      have hj0 : (0 : Int) ≤ (j : Int) := by omega
                      clear cs1 hx
                      cases his : G.isK l t.size i j
                      · rw [his, Bool.false_or] at hst
                        have HST : Hid _ := hst
                        clear hst his
                        go_wp2
                        go_roundw
                        case rel => exact ⟨j + 1, by rw [HST.out]; exact congrArg Value.bool (beqI _ _), by go_num, by omega, by first | rfl | trivial⟩
                        case measure => simp [intOf]; omega
                      · rw [his, Bool.true_or] at hst
                        have HST : Hid _ := hst
                        clear hst his
                        go_wp2
                        go_roundw
                        case rel => exact ⟨j + 1, by rw [HST.out], by go_num, by omega, by first | rfl | trivial⟩
                        case measure => simp [intOf]; omega
                    · obtain rfl : j = k := by omega
                      have hwas : Cs.isB B i = G.isK l t.size i j := by rw [← HBE.out, ← HN.out]; exact G.isK_fin HCH.out
                      rw [hwas]
                      by_cases ht0 : t.size = 0
                      · have hbz : ((t.size : Int) == 0) = true := by simpa using ht0
                        have hl0 : G.isK l t.size i j = (i == 0) := by
                          have hle := HCH.out
                          cases l with
                          | nil => simp [G.isK, ht0, beqI]
                          | cons y l' => have h1 := hle.above y (by simp); omega
                        rw [hl0]
                        clear hwas hl0
                        go_wp2
                        go_ret
                        exact ⟨by first | rfl | simp, (HB.out.trans (hb9.mono (by have := HB.out.size; omega)))⟩
                      · have hbz : ((t.size : Int) == 0) = false := by simpa using ht0
                        clear hwas
                        generalize G.isK l t.size i j = bb
                        go_wp2_with fail
                        refine (pfirst_any wr c v4 B cu9 hC9 hBn).mono ?_
                        rintro e w10 ⟨rfl, hC10, k10⟩
                        have hb10 : Below w3.heap.size w3 w10 := keptN hb9 k10 (by omega) (fun k hk => by omega)
                        go_wp2
                        go_ret
                        exact ⟨by first | rfl | simp, (HB.out.trans (hb10.mono (by have := HB.out.size; omega)))⟩
                  
                · by_cases hz0 : i = 0
                  · subst hz0
                    have HST0 : Hid (G.isK l t.size 0 0 = true) := by show G.isK l t.size 0 0 = _; simp [G.isK]
                    go_wp2_with fail
                    refine (pisB_any wr c v4 B cu hC hBn 0).mono ?_
                    rintro e wr' ⟨rfl, rfl⟩
                    go_wp2_with fail
                    refine (pfollow_any wr' c v4 B cu hC hBn 0).mono ?_
                    rintro e w8 ⟨r8, hr8, rfl, hC8, k8⟩
                    have hb8 : Below w3.heap.size w3 w8 := keptN hbr k8 (by omega) (fun k hk => by omega)
                    have z8 := hb8.size
                    have hE8 : A = r8 := by have := HAF.out r8 hr8; rw [if_neg (by omega)] at this; exact this.symm
                    subst hE8
                    clear hr8
                    go_wp2_with fail
                    refine (ppreced_any w8 c v4 B _ hC8 hBn 0).mono ?_
                    rintro e w9 ⟨r9, hr9, rfl, hC9, k9⟩
                    have hb9 : Below w3.heap.size w3 w9 := keptN hb8 k9 (by omega) (fun k hk => by omega)
                    have z9 := hb9.size
                    have hE9 : D = r9 := by have := HBF.out r9 hr9; rw [if_neg (by omega)] at this; exact this.symm
                    subst hE9
                    generalize G.stand (G.stand cu A) D = cu9 at hC9
                    clear hr9 hC8 hb8 k8 k9 hC hbr HAF HBF
                    go_wp2_with fail
                    go_loopw [27, 28] (fun vb vk wr => ∃ j : Nat, vb = .bool (G.isK l t.size 0 j) ∧ vk = .int .i64 j ∧ j ≤ k ∧ wr = w9) (fun _ vk _ => k - (intOf vk).toNat)
                    case atStart => exact ⟨0, congrArg Value.bool HST0.out.symm, rfl, Nat.zero_le _, rfl⟩
                    case round =>
                      obtain ⟨j, rfl, rfl, hjk2, rfl⟩ := hrel
                      by_cases hj2 : j < k
                      · have hx : l[j]? = some (l[j]'(by rw [HN.out]; exact hj2)) := List.getElem?_eq_getElem _
                        generalize l[j]'(by rw [HN.out]; exact hj2) = x at hx
                        obtain ⟨g1, rfl, cs1⟩ := Rf.seg_to o3 hx hj2
                        have e0 := (cs1 wr hb9).1
                        have hst := G.isK_step (z := t.size) (i := 0) hx
                        have hjI : (j : Int) < (k : Int) := by omega
                        have hj0 : (0 : Int) ≤ (j : Int) := by omega
                        clear cs1 hx
                        cases his : G.isK l t.size 0 j
                        · rw [his, Bool.false_or] at hst
                          have HST : Hid _ := hst
                          clear hst his
                          go_wp2
                          go_roundw
                          case rel => exact ⟨j + 1, by rw [HST.out]; exact congrArg Value.bool (beqI _ _), by go_num, by omega, by first | rfl | trivial⟩
                          case measure => simp [intOf]; omega
                        · rw [his, Bool.true_or] at hst
                          have HST : Hid _ := hst
                          clear hst his
                          go_wp2
                          go_roundw
                          case rel => exact ⟨j + 1, by rw [HST.out], by go_num, by omega, by first | rfl | trivial⟩
                          case measure => simp [intOf]; omega
                      · obtain rfl : j = k := by omega
                        have hwas : Cs.isB B 0 = G.isK l t.size 0 j := by rw [← HBE.out, ← HN.out]; exact G.isK_fin HCH.out
                        rw [hwas]
                        by_cases ht0 : t.size = 0
                        · have hbz : ((t.size : Int) == 0) = true := by simpa using ht0
                          have hl0 : G.isK l t.size 0 j = ((0 : Int) == 0) := by
                            have hle := HCH.out
                            cases l with
                            | nil => simp [G.isK, ht0]
                            | cons y l' => have h1 := hle.above y (by simp); omega
                          rw [hl0]
                          clear hwas hl0
                          go_wp2
                          go_ret
                          exact ⟨by first | rfl | simp, (HB.out.trans (hb9.mono (by have := HB.out.size; omega)))⟩
                        · have hbz : ((t.size : Int) == 0) = false := by simpa using ht0
                          clear hwas
                          generalize G.isK l t.size 0 j = bb
                          go_wp2_with fail
                          refine (pfirst_any wr c v4 B cu9 hC9 hBn).mono ?_
                          rintro e w10 ⟨rfl, hC10, k10⟩
                          have hb10 : Below w3.heap.size w3 w10 := keptN hb9 k10 (by omega) (fun k hk => by omega)
                          go_wp2
                          go_ret
                          exact ⟨by first | rfl | simp, (HB.out.trans (hb10.mono (by have := HB.out.size; omega)))⟩
                    
                  · have hz : (i == 0) = false := by simp; omega
                    have HST0 : Hid (G.isK l t.size i 0 = (i == (t.size : Int))) := by show G.isK l t.size i 0 = _; simp [G.isK, beqI, show ¬ i = 0 by omega]
                    go_wp2_with fail
                    refine (pisB_any wr c v4 B cu hC hBn i).mono ?_
                    rintro e wr' ⟨rfl, rfl⟩
                    go_wp2_with fail
                    refine (pfollow_any wr' c v4 B cu hC hBn i).mono ?_
                    rintro e w8 ⟨r8, hr8, rfl, hC8, k8⟩
                    have hb8 : Below w3.heap.size w3 w8 := keptN hbr k8 (by omega) (fun k hk => by omega)
                    have z8 := hb8.size
                    have hE8 : A = r8 := by have := HAF.out r8 hr8; rw [if_neg (by omega)] at this; exact this.symm
                    subst hE8
                    clear hr8
                    go_wp2_with fail
                    refine (ppreced_any w8 c v4 B _ hC8 hBn i).mono ?_
                    rintro e w9 ⟨r9, hr9, rfl, hC9, k9⟩
                    have hb9 : Below w3.heap.size w3 w9 := keptN hb8 k9 (by omega) (fun k hk => by omega)
                    have z9 := hb9.size
                    have hE9 : D = r9 := by have := HBF.out r9 hr9; rw [if_neg (by omega)] at this; exact this.symm
                    subst hE9
                    generalize G.stand (G.stand cu A) D = cu9 at hC9
                    clear hr9 hC8 hb8 k8 k9 hC hbr HAF HBF
                    go_wp2_with fail
                    go_loopw [27, 28] (fun vb vk wr => ∃ j : Nat, vb = .bool (G.isK l t.size i j) ∧ vk = .int .i64 j ∧ j ≤ k ∧ wr = w9) (fun _ vk _ => k - (intOf vk).toNat)
                    case atStart => exact ⟨0, congrArg Value.bool HST0.out.symm, rfl, Nat.zero_le _, rfl⟩
                    case round =>
                      obtain ⟨j, rfl, rfl, hjk2, rfl⟩ := hrel
                      by_cases hj2 : j < k
                      · have hx : l[j]? = some (l[j]'(by rw [HN.out]; exact hj2)) := List.getElem?_eq_getElem _
                        generalize l[j]'(by rw [HN.out]; exact hj2) = x at hx
                        obtain ⟨g1, rfl, cs1⟩ := Rf.seg_to o3 hx hj2
                        have e0 := (cs1 wr hb9).1
                        have hst := G.isK_step (z := t.size) (i := i) hx
                        have hjI : (j : Int) < (k : Int) := by omega
                        have hj0 : (0 : Int) ≤ (j : Int) := by omega
                        clear cs1 hx
                        cases his : G.isK l t.size i j
                        · rw [his, Bool.false_or] at hst
                          have HST : Hid _ := hst
                          clear hst his
                          go_wp2
                          go_roundw
                          case rel => exact ⟨j + 1, by rw [HST.out]; exact congrArg Value.bool (beqI _ _), by go_num, by omega, by first | rfl | trivial⟩
                          case measure => simp [intOf]; omega
                        · rw [his, Bool.true_or] at hst
                          have HST : Hid _ := hst
                          clear hst his
                          go_wp2
                          go_roundw
                          case rel => exact ⟨j + 1, by rw [HST.out], by go_num, by omega, by first | rfl | trivial⟩
                          case measure => simp [intOf]; omega
                      · obtain rfl : j = k := by omega
                        have hwas : Cs.isB B i = G.isK l t.size i j := by rw [← HBE.out, ← HN.out]; exact G.isK_fin HCH.out
                        rw [hwas]
                        by_cases ht0 : t.size = 0
                        · have hbz : ((t.size : Int) == 0) = true := by simpa using ht0
                          have hl0 : G.isK l t.size i j = (i == 0) := by
                            have hle := HCH.out
                            cases l with
                            | nil => simp [G.isK, ht0, beqI]
                            | cons y l' => have h1 := hle.above y (by simp); omega
                          rw [hl0]
                          clear hwas hl0
                          go_wp2
                          go_ret
                          exact ⟨by first | rfl | simp, (HB.out.trans (hb9.mono (by have := HB.out.size; omega)))⟩
                        · have hbz : ((t.size : Int) == 0) = false := by simpa using ht0
                          clear hwas
                          generalize G.isK l t.size i j = bb
                          go_wp2_with fail
                          refine (pfirst_any wr c v4 B cu9 hC9 hBn).mono ?_
                          rintro e w10 ⟨rfl, hC10, k10⟩
                          have hb10 : Below w3.heap.size w3 w10 := keptN hb9 k10 (by omega) (fun k hk => by omega)
                          go_wp2
                          go_ret
                          exact ⟨by first | rfl | simp, (HB.out.trans (hb10.mono (by have := HB.out.size; omega)))⟩
                    
end Pr
end Go.Proofs.YtpgcidpghmoibaaGreatDoor
