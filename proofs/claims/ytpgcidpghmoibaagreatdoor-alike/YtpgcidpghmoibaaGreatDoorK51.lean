/-
  THE WALK of the statement Alike's law: it answers true of all raw numbers and every text. Conditions: the library's tables lie in memory as the text lays them; the text is no longer than memory bears; the raw numbers lie in memory.
-/
import Derived.Test.YtpgcidpghmoibaaGreatDoorK50
namespace Go.Proofs.YtpgcidpghmoibaaGreatDoor
namespace Pr
open Go.RowKit
open Rf (Kept)
open G (PNode)
theorem comp_src (w : World) (s : ByteArray) (T : List PNode) (Q : List Nat) (hs : s.size ≤ 2000) (hsrc : G.Src s 0 [] [] [] (.ok Q T)) (hT : Tabs w) :
    Calls Tryz.prog 13 #[.string s] w fun e w' => Below w.heap.size w w' ∧ (e = .returned (.tuple #[.pointer none, .int .i64 0, .int .i64 6]) ∨ ∃ b, e = .returned (.tuple #[pv b, .int .i64 0, .int .i64 0]) ∧ RuP w' b T Q) := by
  obtain ⟨e0, w0, _, ⟨_, r, hsrc', hpost⟩, _⟩ := Rf.comp_whole w s hs []
  obtain rfl := hsrc.det _ hsrc'
  obtain ⟨hwf, hq, _⟩ := hpost
  refine (pcomp_any w s (.ok Q T) hs hT hsrc (fun c' p' e => by cases e)).mono ?_
  rintro e w' ⟨hb, ⟨_, rfl⟩ | ⟨⟨h1, h2⟩, b, hbl, rfl, hpr⟩⟩
  · exact ⟨hb, .inl rfl⟩
  · exact ⟨hb, .inr ⟨b, rfl, ⟨hpr, hwf, hq, h1, h2⟩⟩⟩
theorem CutIs.lang {T T' : List PNode} {Q Q' : List Nat} (h : G.SameLang T Q T' Q') {t : ByteArray} {l : List G.Seg} {g : Int} (hc : CutIs T Q t l g) : CutIs T' Q' t l g := by
  rcases hc with ⟨h1, h2, h3⟩ | h1
  · exact .inl ⟨h1, h2, h3.lang h⟩
  · exact .inr h1
theorem IvAt.base {w w' : World} {b b' : Nat} {v : Value} {n : Nat} (h : IvAt w b v n) (hb : Below w.heap.size w w') (hl : w.heap.size ≤ b') : IvAt w' b' v n := by
  obtain ⟨la, cap, hv, hn, hc⟩ := h
  refine ⟨la, cap, hv, hn, fun i hi => ?_⟩
  obtain ⟨a, x, h1, h2, h3, h4, h5⟩ := hc i hi
  exact ⟨a, x, h1, Nat.lt_of_lt_of_le h2 hb.size, by omega, (cell_sm (p := a.add i) (by rw [blk_addr]; exact hb.block a.block h2)).trans h4, h5⟩
set_option maxRecDepth 100000 in
set_option maxHeartbeats 8000000 in
theorem lawa_any (w : World) (vl : Value) (n : Nat) (t : ByteArray) (ht : t.size ≤ maxLen) (hV : IvAt w w.heap.size vl n) (hT : Tabs w) :
    Calls Tryz.prog 6 #[vl, .string t] w fun e w' => e = .returned (.bool true) ∧ Below w.heap.size w w' := by
  obtain ⟨la, cap, hvl, _, _⟩ := id hV
  subst hvl
  go_enter Tryz.func6, Tryz.ntmps6
  go_wp2_with fail
  refine (begin_ru w hT).mono ?_
  rintro e w1 ⟨⟨b0, rfl, _⟩, hb1⟩
  have z1 := hb1.size
  have hT1 := hT.below hb1
  have hb2 : Below w1.heap.size w1 (w1.alloc (.cells #[(.slice la n cap), .int .i64 0] 55)) := (Below.refl _ _).alloc (Nat.le_refl _) _
  have hr0 : RawAt (w1.alloc (.cells #[(.slice la n cap), .int .i64 0] 55)) w1.heap.size (.slice la n cap) n 0 := ⟨heap_alloc_new w1 _, hV.base (hb1.trans (hb2.mono z1)) z1, Nat.zero_le _⟩
  have hB2 : Below w.heap.size w (w1.alloc (.cells #[(.slice la n cap), .int .i64 0] 55)) := hb1.trans (hb2.mono z1)
  have hN := next_any _ _ _ _ _ hr0 3 (by omega) (by omega)
  have HB2 : Hid _ := hB2
  have HT : Hid (Tabs w) := hT
  clear hb1 hb2 hr0 hB2 hV hT1 hT
  go_wp2_with fail
  refine hN.mono ?_
  rintro e w2 ⟨⟨j, hj, rfl⟩, ⟨⟨k2, hr2⟩, hk2⟩⟩
  have z2 := hk2.size
  have hB2 : Below w.heap.size w w2 := HB2.out.trans (hk2.below (by simp; omega) (fun k hk => by omega))
  generalize hg : w1.heap.size = g at *
  clear hN hk2 HB2
  have hwj : IntKind.i64.wrap (1 + (j : Int)) = 1 + (j : Int) := by rw [IntKind.wrap_i64]; omega
  go_wp2_with fail
  go_loopw [7, 8, 9] (fun v1 v2 vi wr => ∃ (a b : ByteArray) (i c k : Nat), v1 = .string a ∧ v2 = .string b ∧ vi = .int .i64 (i : Int) ∧ i + c ≤ 3 ∧ G.TwoS c a b ∧ RawAt wr g (.slice la n cap) n k ∧ Below w.heap.size w wr) (fun _ _ vi _ => (intOf vi).toNat)
  case atStart => exact ⟨ByteArray.empty, ByteArray.empty, j + 1, 0, k2, rfl, rfl, by go_num, by omega, G.TwoS.zero, hr2, hB2⟩
  case round =>
    obtain ⟨a, b, i, c, k, rfl, rfl, rfl, hic, hTw, hr, hbr⟩ := hrel
    by_cases hi : 0 < i
    · have hN := made3 g (.slice la n cap) n wr k hr
      have hi0 : (0 : Int) < (i : Int) := by omega
      have hsz := hTw
      obtain ⟨hs1, hs2, _⟩ := hsz
      have HW : Hid (G.TwoS c a b) := hTw
      have HB : Hid _ := hbr
      have HRr : Hid _ := hr
      clear hTw hbr hr hr2 hB2
      go_wp2_with fail
      refine hN.mono ?_
      rintro e w3 ⟨⟨p, q, h2, rfl⟩, hp⟩
      have hzp := h2.size
      have hl3 : G.lim 3 = 600 := rfl
      rw [hl3] at hzp
      have HT2 : Hid (G.TwoS (c + 1) _ _) := G.TwoS.snoc HW.out h2 (by omega) (by rw [hl3]; omega)
      have hw1 : IntKind.i64.wrap ((i : Int) - 1) = (i : Int) - 1 := by rw [IntKind.wrap_i64]; omega
      obtain ⟨k3, hr3⟩ := hp.1
      have HR3 : Hid (RawAt (w3.alloc (.cells #[.string p, .string q] 58)) g (.slice la n cap) n k3) := hr3.kept ((Below.refl _ w3).alloc (Nat.le_refl _) _)
      have HB3 : Hid (Below w.heap.size w (w3.alloc (.cells #[.string p, .string q] 58))) := (HB.out.trans (hp.2.below (B := w.heap.size) HB.out.size (fun k hk => by omega))).alloc (by have := hp.2.size; have := HB.out.size; omega) (.cells #[.string p, .string q] 58)
      clear hN h2 hp hr3 HW HB HRr
      go_wp2
      go_roundw
      case rel => exact ⟨_, _, i - 1, c + 1, k3, rfl, rfl, by go_num, by omega, HT2.out, HR3.out, HB3.out⟩
      case measure => simp [intOf]; omega
    · obtain rfl : i = 0 := by omega
      obtain ⟨hs1, hs2, _⟩ := id hTw
      obtain ⟨Q, T, Q', T', hS, hS', hL, _, _⟩ := hTw.src
      have hTr := HT.out.below hbr
      clear hr hr2 hB2 hTw
      go_wp2_with fail
      refine (comp_src wr a T Q (by omega) hS hTr).mono ?_
      rintro e w3 ⟨hb3, rfl | ⟨b1, rfl, hR⟩⟩
      · have z3 := hb3.size
        have zr := hbr.size
        go_wp2_with fail
        refine (comp_src w3 b T' Q' (by omega) hS' (hTr.below hb3)).mono ?_
        rintro e w4 ⟨hb4, rfl | ⟨b2, rfl, hR'⟩⟩
        · go_wp2
          go_ret
          exact ⟨rfl, (hbr.trans (hb3.mono (by omega))).trans (hb4.mono (by omega))⟩
        · go_wp2
          go_ret
          exact ⟨rfl, (hbr.trans (hb3.mono (by omega))).trans (hb4.mono (by omega))⟩
      · have z3 := hb3.size
        have zr := hbr.size
        go_wp2_with fail
        refine (comp_src w3 b T' Q' (by omega) hS' (hTr.below hb3)).mono ?_
        rintro e w4 ⟨hb4, rfl | ⟨b2, rfl, hR'⟩⟩
        · go_wp2
          go_ret
          exact ⟨rfl, (hbr.trans (hb3.mono (by omega))).trans (hb4.mono (by omega))⟩
        · have z4 := hb4.size
          have hB4 : Below w.heap.size w w4 := (hbr.trans (hb3.mono (by omega))).trans (hb4.mono (by omega))
          have hR4 := hR.below hb4
          clear hbr hb3 hb4 hR hTr hS hS'
          go_wp2_with fail
          refine (cut_all w4 b1 T Q hR4 t ht).mono ?_
          rintro e w5 ⟨⟨v5, l, g5, rfl, o5, hci⟩, hb5⟩
          obtain ⟨a5, d5, hv5⟩ := Rf.own_len o5
          subst hv5
          have z5 := hb5.size
          go_wp2_with fail
          refine (cut_all w5 b2 T' Q' (hR'.below hb5) t ht).mono ?_
          rintro e w6 ⟨⟨v6, l', g6, rfl, o6, hci'⟩, hb6⟩
          have z6 := hb6.size
          obtain ⟨rfl, rfl⟩ := (hci.lang hL).one hci'
          have hfew := hci.few
          obtain ⟨a6, d6, hv6⟩ := Rf.own_len o6
          subst hv6
          have o5' := Rf.own_same o5 (fun k e => hb6.block k (o5.lt k e).2)
          clear o5
          go_wp2_with fail
          refine (sameCut_any w6 l l _ _ o5' o6 (by omega) (SegEq.refl l)).mono ?_
          rintro e w7 ⟨rfl, hb7⟩
          have z7 := hb7.size
          have hB7 : Below w.heap.size w w7 := ((hB4.trans (hb5.mono (by omega))).trans (hb6.mono (by omega))).trans (hb7.mono (by omega))
          have o7 := Rf.own_same o5' (fun k e => hb7.block k (o5'.lt k e).2)
          have o7' := Rf.own_same o6 (fun k e => hb7.block k (o6.lt k e).2)
          have HB7 : Hid (Below w.heap.size w w7) := hB7
          clear hci hci' hR4 hR' hb5 hb6 hb7 o5' o6 hB4 hB7 hL HT
          generalize hN : l.length = m at *
          have HN : Hid (l.length = m) := hN
          clear hN
          go_wp2_with fail
          go_loopw [22] (fun vi wr => ∃ i : Nat, vi = .int .i64 i ∧ i ≤ m ∧ Below w7.heap.size w7 wr) (fun vi _ => m - (intOf vi).toNat)
          case atStart => exact ⟨0, rfl, Nat.zero_le _, Below.refl _ _⟩
          case round =>
            obtain ⟨i, rfl, hi, hbr⟩ := hrel
            have zr := hbr.size
            by_cases hlt : i < m
            · have hx : l[i]? = some (l[i]'(by rw [HN.out]; exact hlt)) := List.getElem?_eq_getElem _
              generalize l[i]'(by rw [HN.out]; exact hlt) = x at hx
              obtain ⟨g1, rfl, cs1⟩ := Rf.seg_to o7 hx hlt
              obtain ⟨g2, rfl, cs2⟩ := Rf.seg_to o7' hx hlt
              have a2 := (cs1 wr hbr).2.2
              have b2 := (cs2 wr hbr).2.2
              clear cs1 cs2 hx o7 o7'
              have hii : (i : Int) < (m : Int) := by omega
              have hi0 : (0 : Int) ≤ (i : Int) := by omega
              go_wp2_with fail
              go_quiet (fail)
              go_wp2
              go_roundw
              case rel => exact ⟨i + 1, by go_num, by omega, below_drewN hbr _⟩
              case measure => simp [intOf]; omega
            · obtain rfl : i = m := by omega
              go_wp2
              go_ret
              exact ⟨rfl, HB7.out.trans (hbr.mono (by omega))⟩
end Pr
end Go.Proofs.YtpgcidpghmoibaaGreatDoor
