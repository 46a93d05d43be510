/-
  THE WALK of the statement Packed's law: it answers true of every source, text and other bytes. Conditions: the library's tables lie in memory as the text lays them; the other bytes are no more than memory bears.
-/
import Derived.Test.YtpgcidpghmoibaaGreatDoorJ50
import Derived.Test.YtpgcidpghmoibaaGreatDoorJ48
namespace Go.Proofs.YtpgcidpghmoibaaGreatDoor
namespace Pr
open Go.RowKit
open G (PNode)

set_option maxRecDepth 100000 in
set_option maxHeartbeats 4000000 in
theorem lawk_any (w : World) (s t o : ByteArray) (hm : s.size ≤ maxLen) (ht : t.size ≤ maxLen) (ho : o.size ≤ 140737488351232) (hT : Tabs w) :
    Calls Tryz.prog 11 #[.string s, .string t, .string o] w fun e w' => e = .returned (.bool true) ∧ Below w.heap.size w w' := by
  go_enter Tryz.func11, Tryz.ntmps11
  go_wp2_with fail
  refine (begin_any w hT).mono ?_
  rintro e w1 ⟨⟨b0, m, I, v, V, P, f, rfl, hP⟩, hb1⟩
  have z1 := hb1.size
  clear hP
  have hT1 := hT.below hb1
  go_wp2_with fail
  refine (comp_all w1 s hm hT1).mono ?_
  rintro e w2 ⟨hb2, ⟨p, c, hc, rfl⟩ | ⟨b, T, Q, hs, hsrc, hbl, rfl, hR⟩⟩
  · have z2 := hb2.size
    have hB : Below w.heap.size w w2 := hb1.trans (hb2.mono z1)
    have hcb : ((c : Int) == 0) = false := by simp; omega
    clear hb1 hb2
    go_wp2_with fail
    refine (load_all w2 o (by unfold maxLen; omega) (hT.below hB)).mono ?_
    rintro e w8 ⟨hb8, rfl | ⟨x8, T8, Q8, _, _, _, rfl, hR8⟩⟩
    · have hB8 : Below w.heap.size w w8 := hB.trans (hb8.mono (by omega))
      go_wp2
      go_ret
      exact ⟨rfl, hB8⟩
    · have z8 := hb8.size
      have hB8 : Below w.heap.size w w8 := hB.trans (hb8.mono (by omega))
      go_wp2_with fail
      refine (cut_all w8 x8 T8 Q8 hR8 t ht).mono ?_
      rintro e w9 ⟨⟨v9, l9, g9, rfl, o9, hci9⟩, hb9⟩
      have hB9 : Below w.heap.size w w9 := hB8.trans (hb9.mono (by omega))
      have hfew9 := hci9.few
      obtain ⟨zz, hch, hfin⟩ := hci9.chain
      obtain ⟨a9, d9, hv9⟩ := Rf.own_len o9
      subst hv9
      have HC : Hid _ := hch
      clear hch hci9 hR8 hb8 hb9 hB8
      have HF : Hid _ := hfin
      clear hfin
      generalize hN9 : l9.length = n9 at *
      have HN9 : Hid (l9.length = n9) := hN9
      clear hN9
      go_wp2_with fail
      go_loopw [23, 24] (fun va vi wr => ∃ k a : Nat, va = .int .i64 a ∧ vi = .int .i64 k ∧ k ≤ n9 ∧ (G.bnds 0 l9)[k]? = some a ∧ wr = w9) (fun _ vi _ => n9 - (intOf vi).toNat)
      case atStart => exact ⟨0, 0, rfl, rfl, Nat.zero_le _, rfl, rfl⟩
      case round =>
        obtain ⟨k, a, rfl, rfl, hk, hba, rfl⟩ := hrel
        by_cases hlt9 : k < n9
        · have hx : l9[k]? = some (l9[k]'(by rw [HN9.out]; exact hlt9)) := List.getElem?_eq_getElem _
          generalize l9[k]'(by rw [HN9.out]; exact hlt9) = x at hx
          obtain ⟨g3, rfl, cs3⟩ := Rf.seg_to o9 hx hlt9
          obtain ⟨e0, e1, _⟩ := cs3 wr (Below.refl _ _)
          have hg := HC.out.get k x hx
          have hxa : x.f = a := by have := hg.1.symm.trans hba; simpa using this
          have hlt2 := (HC.out.above x (List.mem_of_getElem? hx)).2.2.1
          have HG : Hid _ := hg.2
          clear hg hba cs3 hx o9
          obtain ⟨xf, xt, xr⟩ := x
          simp only at *
          subst hxa
          have hle : ¬ (xt : Int) ≤ (xf : Int) := by omega
          go_wp2
          go_roundw
          case rel => exact ⟨k + 1, xt, rfl, by go_num, by omega, HG.out, by first | rfl | trivial⟩
          case measure => simp [intOf]; omega
        · obtain rfl : k = n9 := by omega
          have hz : a = zz := by have := HC.out.last; rw [HN9.out] at this; have := this.symm.trans hba; simpa using this.symm
          rcases HF.out with ⟨rfl, hzt⟩ | ⟨rfl, hl0⟩
          · have haz : a = t.size := by omega
            subst haz
            clear hba hz
            go_wp2
            go_ret
            exact ⟨rfl, hB9⟩
          · have hk0 : k = 0 := by have := HN9.out; rw [hl0] at this; simpa using this.symm
            subst hk0
            clear hba hz
            go_wp2
            go_ret
            exact ⟨rfl, hB9⟩
  · have z2 := hb2.size
    have hB : Below w.heap.size w w2 := hb1.trans (hb2.mono z1)
    have hT2 := hT.below hB
    clear hb1 hb2 hT1
    go_wp2_with fail
    refine (pack_any w2 b T Q hR.pr).mono ?_
    rintro e w2' ⟨⟨sp, hsp, hspr, rfl⟩, rfl⟩
    go_wp2_with fail
    refine (load_ok w2' sp T Q hsp hspr hR.few hR.sz hT2).mono ?_
    rintro e w3 ⟨hb3, b', hbl', rfl, hR'⟩
    have z3 := hb3.size
    have hR3 := hR.below hb3
    have hB3 : Below w.heap.size w w3 := hB.trans (hb3.mono (by omega))
    clear hB hb3 hT2
    have hc1 := count_any w3 b' T Q hR'.pr
    have hc2 := count_any w3 b T Q hR3.pr
    have hp1 := pplaces_any w3 b' T Q hR'.pr hR'.wf hR'.lt
    have hp2 := pplaces_any w3 b T Q hR3.pr hR3.wf hR3.lt
    generalize (Q.flatMap (G.lv T)).length = np at hp1 hp2
    generalize hql : Q.length = nq at hc1 hc2
    clear hql
    go_wp2_with fail
    refine hc1.mono ?_
    rintro e w3a ⟨rfl, rfl⟩
    go_wp2_with fail
    refine hc2.mono ?_
    rintro e w3b ⟨rfl, rfl⟩
    go_wp2_with fail
    refine hp1.mono ?_
    rintro e w3c ⟨rfl, rfl⟩
    go_wp2_with fail
    refine hp2.mono ?_
    rintro e w3 ⟨rfl, rfl⟩
    clear hc1 hc2 hp1 hp2
    go_wp2_with fail
    refine (cut_all w3 b T Q hR3 t ht).mono ?_
    rintro e w4 ⟨⟨v4, l, g, rfl, o4, hci⟩, hb4⟩
    obtain ⟨a4, d4, hv4⟩ := Rf.own_len o4
    subst hv4
    have z4 := hb4.size
    go_wp2_with fail
    refine (cut_all w4 b' T Q (hR'.below hb4) t ht).mono ?_
    rintro e w5 ⟨⟨v5, l', g', rfl, o5, hci'⟩, hb5⟩
    have z5 := hb5.size
    obtain ⟨rfl, rfl⟩ := hci.one hci'
    have hfew := hci.few
    obtain ⟨a5, d5, hv5⟩ := Rf.own_len o5
    subst hv5
    have o4' := Rf.own_same o4 (fun k e => hb5.block k (o4.lt k e).2)
    clear o4
    go_wp2_with fail
    refine (sameCut_any w5 l l _ _ o4' o5 (by omega) (SegEq.refl l)).mono ?_
    rintro e w6 ⟨rfl, hb6⟩
    have z6 := hb6.size
    have hB6 : Below w.heap.size w w6 := ((hB3.trans (hb4.mono (by omega))).trans (hb5.mono (by omega))).trans (hb6.mono (by omega))
    have hR6 : RuP w6 b T Q := ((hR3.below hb4).below hb5).below hb6
    have o6 := Rf.own_same o4' (fun k e => hb6.block k (o4'.lt k e).2)
    have o6' := Rf.own_same o5 (fun k e => hb6.block k (o5.lt k e).2)
    have HR : Hid _ := And.intro hR6 hB6
    clear hci hci' hR hR' hR3 hb4 hb5 hb6 o4' o5 hB3 hR6 hB6
    generalize hN : l.length = n at *
    have HN : Hid (l.length = n) := hN
    clear hN
    go_wp2_with fail
    go_loopw [18] (fun vi wr => ∃ i : Nat, vi = .int .i64 i ∧ i ≤ n ∧ Below w6.heap.size w6 wr) (fun vi _ => n - (intOf vi).toNat)
    case atStart => exact ⟨0, rfl, Nat.zero_le _, Below.refl _ _⟩
    case round =>
      obtain ⟨i, rfl, hi, hbr⟩ := hrel
      have zr := hbr.size
      by_cases hlt : i < n
      · have hx : l[i]? = some (l[i]'(by rw [HN.out]; exact hlt)) := List.getElem?_eq_getElem _
        generalize l[i]'(by rw [HN.out]; exact hlt) = x at hx
        obtain ⟨g1, rfl, cs1⟩ := Rf.seg_to o6 hx hlt
        obtain ⟨g2, rfl, cs2⟩ := Rf.seg_to o6' hx hlt
        have a2 := (cs1 wr hbr).2.2
        have b2 := (cs2 wr hbr).2.2
        clear cs1 cs2 hx o6 o6'
        have hii : (i : Int) < (n : Int) := by omega
        have hi0 : (0 : Int) ≤ (i : Int) := by omega
        go_wp2_with fail
        go_quiet (fail)
        go_wp2
        go_roundw
        case rel => exact ⟨i + 1, by go_num, by omega, below_drewN hbr _⟩
        case measure => simp [intOf]; omega
      · obtain rfl : i = n := by omega
        have hRr := HR.out.1.below hbr
        have hBr : Below w.heap.size w wr := HR.out.2.trans (hbr.mono (by omega))
        clear HR o6 o6' hbr
        go_wp2_with fail
        refine (pack_any wr b T Q hRr.pr).mono ?_
        rintro e wr' ⟨⟨sp2, hsp2, _, rfl⟩, rfl⟩
        go_wp2_with fail
        refine (twisted_any wr' sp2 o hsp2 ho).mono ?_
        rintro e w7 ⟨⟨o2, ho2, rfl⟩, hb7⟩
        have z7 := hb7.size
        have hB7 : Below w.heap.size w w7 := hBr.trans (hb7.mono (by omega))
        clear hBr hb7 hRr
        go_wp2_with fail
        refine (load_all w7 o2 (by unfold maxLen; omega) (hT.below hB7)).mono ?_
        rintro e w8 ⟨hb8, rfl | ⟨x8, T8, Q8, _, _, _, rfl, hR8⟩⟩
        · have hB8 : Below w.heap.size w w8 := hB7.trans (hb8.mono (by omega))
          go_wp2
          go_ret
          exact ⟨rfl, hB8⟩
        · have z8 := hb8.size
          have hB8 : Below w.heap.size w w8 := hB7.trans (hb8.mono (by omega))
          go_wp2_with fail
          refine (cut_all w8 x8 T8 Q8 hR8 t ht).mono ?_
          rintro e w9 ⟨⟨v9, l9, g9, rfl, o9, hci9⟩, hb9⟩
          have hB9 : Below w.heap.size w w9 := hB8.trans (hb9.mono (by omega))
          have hfew9 := hci9.few
          obtain ⟨zz, hch, hfin⟩ := hci9.chain
          obtain ⟨a9, d9, hv9⟩ := Rf.own_len o9
          subst hv9
          have HC : Hid _ := hch
          clear hch hci9 hR8 hb8 hb9 hB8
          have HF : Hid _ := hfin
          clear hfin
          generalize hN9 : l9.length = n9 at *
          have HN9 : Hid (l9.length = n9) := hN9
          clear hN9
          go_wp2_with fail
          go_loopw [23, 24] (fun va vi wr => ∃ k a : Nat, va = .int .i64 a ∧ vi = .int .i64 k ∧ k ≤ n9 ∧ (G.bnds 0 l9)[k]? = some a ∧ wr = w9) (fun _ vi _ => n9 - (intOf vi).toNat)
          case atStart => exact ⟨0, 0, rfl, rfl, Nat.zero_le _, rfl, rfl⟩
          case round =>
            obtain ⟨k, a, rfl, rfl, hk, hba, rfl⟩ := hrel
            by_cases hlt9 : k < n9
            · have hx : l9[k]? = some (l9[k]'(by rw [HN9.out]; exact hlt9)) := List.getElem?_eq_getElem _
              generalize l9[k]'(by rw [HN9.out]; exact hlt9) = x at hx
              obtain ⟨g3, rfl, cs3⟩ := Rf.seg_to o9 hx hlt9
              obtain ⟨e0, e1, _⟩ := cs3 wr (Below.refl _ _)
              have hg := HC.out.get k x hx
              have hxa : x.f = a := by have := hg.1.symm.trans hba; simpa using this
              have hlt2 := (HC.out.above x (List.mem_of_getElem? hx)).2.2.1
              have HG : Hid _ := hg.2
              clear hg hba cs3 hx o9
              obtain ⟨xf, xt, xr⟩ := x
              simp only at *
              subst hxa
              have hle : ¬ (xt : Int) ≤ (xf : Int) := by omega
              go_wp2
              go_roundw
              case rel => exact ⟨k + 1, xt, rfl, by go_num, by omega, HG.out, by first | rfl | trivial⟩
              case measure => simp [intOf]; omega
            · obtain rfl : k = n9 := by omega
              have hz : a = zz := by have := HC.out.last; rw [HN9.out] at this; have := this.symm.trans hba; simpa using this.symm
              rcases HF.out with ⟨rfl, hzt⟩ | ⟨rfl, hl0⟩
              · have haz : a = t.size := by omega
                subst haz
                clear hba hz
                go_wp2
                go_ret
                exact ⟨rfl, hB9⟩
              · have hk0 : k = 0 := by have := HN9.out; rw [hl0] at this; simpa using this.symm
                subst hk0
                clear hba hz
                go_wp2
                go_ret
                exact ⟨rfl, hB9⟩
end Pr
end Go.Proofs.YtpgcidpghmoibaaGreatDoor
