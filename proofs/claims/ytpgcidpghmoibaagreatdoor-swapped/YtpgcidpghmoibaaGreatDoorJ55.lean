/-
  THE LAWS' HELPER begin, once more: the rules that it gives, as rules that may be asked whether runes are the Same; and the laws' helper pick. Condition: the library's tables lie in memory as the text lays them.
  THE WALK of the statement Swapped's law: it answers true of every source, text and two numbers. Conditions: the library's tables lie in memory as the text lays them; the text is no longer than memory bears; the numbers are of 64 bits.
-/
import Derived.Test.YtpgcidpghmoibaaGreatDoorJ50
import Derived.Test.YtpgcidpghmoibaaGreatDoorJ54
namespace Go.Proofs.YtpgcidpghmoibaaGreatDoor
namespace Pr
open Go.RowKit
open G (PNode)

set_option maxRecDepth 100000 in
set_option maxHeartbeats 1000000 in
theorem begin_ru (w : World) (hT : Tabs w) : Calls Tryz.prog 23 #[] w fun e w' => (∃ b, e = .returned (pv b) ∧ RuP w' b G.wordsT ([] ++ [G.wT3.length])) ∧ Below w.heap.size w w' := by
  have hC : Calls Tryz.prog 13 #[.string ⟨#[91, 97, 45, 122, 93, 43, 59]⟩] w fun e w' => Below w.heap.size w w' ∧ ∃ b, w.heap.size ≤ b ∧ e = .returned (.tuple #[pv b, .int .i64 0, .int .i64 0]) ∧ RuP w' b G.wordsT ([] ++ [G.wT3.length]) :=
    comp_ok w G.wordsB G.wordsT _ (by decide) G.words_src (by decide) (by rw [G.words_size]; omega) hT
  have hwf := (words_wf w).1
  go_enter Tryz.func23, Tryz.ntmps23
  go_wp2_with (first
    | (go_at_call 27
       refine hM.mono ?_
       rintro e w2 ⟨⟨vo, l, rfl, hcut, ho⟩, hb2⟩
       have hl : l = [⟨0, 2, 0⟩, ⟨2, 3, -1⟩] := (hcut.one (G.ab1_cut hwf))
       subst hl
       have ho := Rf.own_zero ho
       obtain ⟨a4, d4, hv4⟩ := Rf.own_len ho
       subst hv4
       obtain ⟨g, hg, h0⟩ := Rf.seg_to ho (k := 0) (x := ⟨0, 2, 0⟩) rfl (by decide)
       subst hg
       obtain ⟨g', hg', h1⟩ := Rf.seg_to ho (k := 1) (x := ⟨2, 3, -1⟩) rfl (by decide)
       obtain rfl : g = g' := (by simpa using hg')
       obtain ⟨r00, r01, r02⟩ := h0 w2 (Below.refl _ _)
       obtain ⟨r10, r11, r12⟩ := h1 w2 (Below.refl _ _)
       have heq := eqSeg 0 2 0 0 2 0
       have heq1 := eqSeg 2 3 (-1) 2 3 (-1)
       clear h0 h1 hg' hcut ho)
    | (go_at_call 13
       refine hC.mono ?_
       rintro e w1 ⟨hb1, b, _, rfl, hR⟩
       obtain ⟨m, I, v, V, P, f, hP⟩ := hR.pin
       have hM := pcut_short w1 b m I v V G.wordsT _ P f hP G.ab1 (by decide)))
  go_ret
  exact ⟨⟨b, rfl, hR.below hb2⟩, hb1.trans (hb2.mono hb1.size)⟩

set_option maxRecDepth 100000 in
theorem pick_any (c : Int) (w : World) (h1 : -9223372036854775808 ≤ c) (h2 : c ≤ 9223372036854775807) : Calls Tryz.prog 30 #[.int .i64 c, .int .i64 26] w fun e w' => (∃ k : Nat, k < 26 ∧ e = .returned (.int .i64 (k : Int))) ∧ w' = w := by
  have key : ∀ x : Int, 0 ≤ x → ∃ k : Nat, k < 26 ∧ x.tmod 26 = (k : Int) := fun x hx => ⟨(x.tmod 26).toNat, by
    have := Int.tmod_lt_of_pos x (show (0 : Int) < 26 by omega)
    have h0 := Int.tmod_nonneg 26 hx
    omega, by
    have h0 := Int.tmod_nonneg 26 hx
    omega⟩
  by_cases hc : c < 0
  · have hw1 : wrap64 (c + 1) = c + 1 := by unfold wrap64; omega
    have hw2 : wrap64 (-(c + 1)) = -(c + 1) := by unfold wrap64; omega
    have hw3 : IntKind.i64.wrap (c + 1) = c + 1 := by rw [IntKind.wrap_i64]; omega
    have hw4 : IntKind.i64.wrap (-(c + 1)) = -(c + 1) := by rw [IntKind.wrap_i64]; omega
    obtain ⟨k, hk, he⟩ := key (-(c + 1)) (by omega)
    go_enter Tryz.func30, Tryz.ntmps30
    go_wp2
    go_ret
    exact ⟨⟨k, hk, by first | rfl | (rw [← he]; first | rfl | (congr 2; omega))⟩, rfl⟩
  · obtain ⟨k, hk, he⟩ := key c (by omega)
    go_enter Tryz.func30, Tryz.ntmps30
    go_wp2
    go_ret
    exact ⟨⟨k, hk, by first | rfl | (rw [← he]; first | rfl | (congr 2; omega))⟩, rfl⟩

end Pr
end Go.Proofs.YtpgcidpghmoibaaGreatDoor

namespace Go.Proofs.YtpgcidpghmoibaaGreatDoor
namespace Pr
open Go.RowKit
open G (PNode)

theorem words_same1 : (([] ++ [G.wT3.length]).any (G.tellB G.wordsT 97 122)) = false := by decide
theorem words_same2 : (([] ++ [G.wT3.length]).any (G.tellB G.wordsT 97 49)) = true := by decide

/-- The bytes of the two texts while they are made. -/
def tF (b : Nat → Nat) (i j : Nat) : Nat := if j < i then 97 + b j % 26 else b j
def uF (b : Nat → Nat) (X Y i j : Nat) : Nat := if j < i then (if 97 + b j % 26 = X ∧ j % 2 = 0 then Y else 97 + b j % 26) else b j

theorem cell_in {w : World} {p : Addr} {u : Value} (h : w.cell? p = some u) : p.block < w.heap.size := by
  unfold World.cell? at h
  cases hb : w.heap[p.block]? with
  | none => rw [hb] at h; simp at h
  | some o => exact lt_of_block hb
theorem BR.congr {w : World} {g n : Nat} {F F' : Nat → Nat} (h : BR w g n F) (e : ∀ j, j < n → F j = F' j) : BR w g n F' :=
  ⟨fun j hj => by rw [← e j hj]; exact h.cell j hj, h.free⟩
theorem tF_next (b : Nat → Nat) (i j : Nat) : (if j = i then 97 + b i % 26 else tF b i j) = tF b (i + 1) j := by
  unfold tF
  by_cases h : j = i
  · subst h; simp
  · rw [if_neg h]
    by_cases h2 : j < i
    · rw [if_pos h2, if_pos (by omega)]
    · rw [if_neg h2, if_neg (by omega)]
theorem uF_next (b : Nat → Nat) (X Y i j v : Nat) (hv : v = if 97 + b i % 26 = X ∧ i % 2 = 0 then Y else 97 + b i % 26) : (if j = i then v else uF b X Y i j) = uF b X Y (i + 1) j := by
  unfold uF
  by_cases h : j = i
  · subst h; simp [hv]
  · rw [if_neg h]
    by_cases h2 : j < i
    · have h3 : j < i + 1 := by omega
      simp only [if_pos h2, if_pos h3]
    · have h3 : ¬ j < i + 1 := by omega
      simp only [if_neg h2, if_neg h3]
theorem put_t {wr : World} {g n : Nat} {bb : Nat → Nat} {X Y i : Nat} (hr1 : BR wr g n (tF bb i)) (hr2 : BR wr (g + 1) n (uF bb X Y i)) (hi : i < n) : BR (wr.setCell ⟨g, i, none⟩ (.int .u8 ((97 + bb i % 26 : Nat) : Int))) g n (tF bb (i + 1)) ∧ BR (wr.setCell ⟨g, i, none⟩ (.int .u8 ((97 + bb i % 26 : Nat) : Int))) (g + 1) n (uF bb X Y i) :=
  ⟨(hr1.set i _ hi).congr (fun j _ => tF_next bb i j), hr2.same (Rf.blk_ne _ (by omega))⟩
theorem put_u {wr : World} {g n : Nat} {bb : Nat → Nat} {X Y i : Nat} (hr1 : BR wr g n (tF bb (i + 1))) (hr2 : BR wr (g + 1) n (uF bb X Y i)) (hi : i < n) (v : Nat) (hv : v = if 97 + bb i % 26 = X ∧ i % 2 = 0 then Y else 97 + bb i % 26) : BR (wr.setCell ⟨g + 1, i, none⟩ (.int .u8 (v : Int))) g n (tF bb (i + 1)) ∧ BR (wr.setCell ⟨g + 1, i, none⟩ (.int .u8 (v : Int))) (g + 1) n (uF bb X Y (i + 1)) :=
  ⟨hr1.same (Rf.blk_ne _ (by omega)), (hr2.set i v hi).congr (fun j _ => uF_next bb X Y i j v hv)⟩
theorem put_w {wr : World} {g n : Nat} {bb : Nat → Nat} {X Y i : Nat} (hr1 : BR wr g n (tF bb (i + 1))) (hr2 : BR wr (g + 1) n (uF bb X Y i)) (hi : i < n) (u v : Nat) (hv : v = if 97 + bb i % 26 = X ∧ i % 2 = 0 then Y else 97 + bb i % 26) : BR ((wr.setCell ⟨g + 1, i, none⟩ (.int .u8 (u : Int))).setCell ⟨g + 1, i, none⟩ (.int .u8 (v : Int))) g n (tF bb (i + 1)) ∧ BR ((wr.setCell ⟨g + 1, i, none⟩ (.int .u8 (u : Int))).setCell ⟨g + 1, i, none⟩ (.int .u8 (v : Int))) (g + 1) n (uF bb X Y (i + 1)) := by
  refine ⟨(hr1.same (Rf.blk_ne _ (by omega))).same (Rf.blk_ne _ (by omega)), ((hr2.set i u hi).set i v hi).congr (fun j hj => ?_)⟩
  rw [← uF_next bb X Y i j v hv]
  by_cases h : j = i
  · rw [if_pos h, if_pos h]
  · rw [if_neg h, if_neg h, if_neg h]

set_option maxRecDepth 100000 in
set_option maxHeartbeats 8000000 in
theorem laws_any (w : World) (s t : ByteArray) (a c : Int) (hm : s.size ≤ maxLen) (ht : t.size ≤ 140737488351232) (ha : (Lit.int .i64 a).wf = true) (hc : (Lit.int .i64 c).wf = true) (hT : Tabs w) :
    Calls Tryz.prog 8 #[.string s, .string t, .int .i64 a, .int .i64 c] w fun e w' => e = .returned (.bool true) ∧ Below w.heap.size w w' := by
  have ha' : -9223372036854775808 ≤ a ∧ a ≤ 9223372036854775807 := by simp [Lit.wf, IntKind.min, IntKind.max, IntKind.signed, IntKind.bits] at ha; omega
  have hc' : -9223372036854775808 ≤ c ∧ c ≤ 9223372036854775807 := by simp [Lit.wf, IntKind.min, IntKind.max, IntKind.signed, IntKind.bits] at hc; omega
  clear ha hc
  go_enter Tryz.func8, Tryz.ntmps8
  go_wp2_with fail
  refine (begin_ru w hT).mono ?_
  rintro e w1 ⟨⟨b0, rfl, hR0⟩, hb1⟩
  have z1 := hb1.size
  have hsz0 : (([] ++ [G.wT3.length]).flatMap (G.lv G.wordsT)).length ≤ 100 := by decide
  have hS1 := psame_any w1 b0 _ _ hR0.pr hR0.wf hR0.lt hsz0 97 122
  rw [words_same1] at hS1
  go_wp2_with fail
  refine hS1.mono ?_
  rintro e w2 ⟨rfl, hb2⟩
  have z2 := hb2.size
  have hS2 := psame_any w2 b0 _ _ (hR0.below hb2).pr hR0.wf hR0.lt hsz0 97 49
  rw [words_same2] at hS2
  clear hS1 hR0
  go_wp2_with fail
  refine hS2.mono ?_
  rintro e w3 ⟨rfl, hb3⟩
  have z3 := hb3.size
  have hB3 : Below w.heap.size w w3 := (hb1.trans (hb2.mono z1)).trans (hb3.mono (by omega))
  clear hS2 hb1 hb2 hb3
  go_wp2_with fail
  refine (comp_all w3 s hm (hT.below hB3)).mono ?_
  rintro e w4 ⟨hb4, ⟨p, cc, hcc, rfl⟩ | ⟨b, T, Q, _, _, _, rfl, hR⟩⟩
  · have hcb : ((cc : Int) != 0) = true := by simp; omega
    go_wp2
    go_ret
    exact ⟨rfl, hB3.trans (hb4.mono (by omega))⟩
  · have z4 := hb4.size
    have hB4 : Below w.heap.size w w4 := hB3.trans (hb4.mono (by omega))
    clear hB3 hb4
    go_wp2_with fail
    refine (pick_any a w4 ha'.1 ha'.2).mono ?_
    rintro e w4' ⟨⟨k, hk, rfl⟩, rfl⟩
    go_wp2_with fail
    refine (pick_any c w4' hc'.1 hc'.2).mono ?_
    rintro e w4 ⟨⟨m, hmm, rfl⟩, rfl⟩
    have hsz : (Q.flatMap (G.lv T)).length ≤ 100 := by rw [G.len_flatMap, G.sizeOf_pls hR.wf Q hR.lt hR.sz]; exact hR.sz
    have hS := psame_any w4 b T Q hR.pr hR.wf hR.lt hsz (97 + (k : Int)) (97 + (m : Int))
    go_wp2_with fail
    refine hS.mono ?_
    rintro e w5 ⟨rfl, hb5⟩
    have z5 := hb5.size
    have hB5 : Below w.heap.size w w5 := hB4.trans (hb5.mono (by omega))
    have hR5 := hR.below hb5
    clear hB4 hb5 hR hS
    cases hq : Q.any (G.tellB T (97 + (k : Int)) (97 + (m : Int)))
    rotate_left
    · go_wp2
      go_ret
      exact ⟨rfl, hB5⟩
    · have hcv : ∀ W : World, (convert 9 70 (.string t)).run Tryz.prog W = .ok (.slice (some ⟨W.heap.size, 0, none⟩) t.size (grownCap W t.size 0 5)) (Lib.bytesWorld W 5 t) := fun W => Lib.run_convert_string_bytes W 9 70 5 t Tryz.underlying9 Tryz.underlying70 Tryz.underlying5
      have hb6 := below_bytes w5 5 t
      have r1 := BR.start w5 5 t
      have z6 := Lib.bytesWorld_size w5 5 t
      have hb7 := below_bytes (Lib.bytesWorld w5 5 t) 5 t
      have r2 := BR.start (Lib.bytesWorld w5 5 t) 5 t
      have r1' := r1.same (hb7.block w5.heap.size (by omega))
      rw [z6] at r2
      have HQ : Hid (Q.any (G.tellB T (97 + (k : Int)) (97 + (m : Int))) = false) := hq
      have HB7 : Hid (Below w5.heap.size w5 (Lib.bytesWorld (Lib.bytesWorld w5 5 t) 5 t)) := hb6.trans (hb7.mono (by omega))
      clear hq r1 hb6 hb7
      have HRR : Hid _ := And.intro r1' r2
      clear r1' r2
      go_wp2_with fail
      obtain ⟨bb, hbb⟩ : ∃ bb : Nat → Nat, bb = fun j => (t.data.toList.getD j 0).toNat := ⟨_, rfl⟩
      have hb256 : ∀ j, bb j < 256 := fun j => by rw [hbb]; exact UInt8.toNat_lt _
      rw [← hbb] at HRR
      clear hbb hcv
      obtain ⟨W7, hW7⟩ : ∃ W7, W7 = Lib.bytesWorld (Lib.bytesWorld w5 5 t) 5 t := ⟨_, rfl⟩
      rw [← hW7] at HRR HB7 ⊢
      clear hW7
      generalize grownCap w5 t.size 0 5 = cap1
      generalize grownCap (Lib.bytesWorld w5 5 t) t.size 0 5 = cap2
      have hne : w5.heap.size ≠ w5.heap.size + 1 := by omega
      generalize hg1 : w5.heap.size = g1 at *
      go_loopw [17] (fun vi wr => ∃ i : Nat, vi = .int .i64 i ∧ i ≤ t.size ∧ BR wr g1 t.size (tF bb i) ∧ BR wr (g1 + 1) t.size (uF bb (97 + k) (97 + m) i) ∧ Below g1 w5 wr) (fun vi _ => t.size - (intOf vi).toNat)
      case atStart => exact ⟨0, rfl, Nat.zero_le _, by have := HRR.out.1; exact this, by have := HRR.out.2; exact this, HB7.out⟩
      case round =>
        obtain ⟨i, rfl, hi, hr1, hr2, hbr⟩ := hrel
        by_cases hlt : i < t.size
        · have c1 := hr1.cell i hlt
          have f1 := hr1.free i hlt
          have c2 := hr2.cell i hlt
          have f2 := hr2.free i hlt
          rw [show tF bb i i = bb i by simp [tF]] at c1
          rw [show uF bb (97 + k) (97 + m) i i = bb i by simp [uF]] at c2
          have hbi := hb256 i
          obtain ⟨p1, p2⟩ := put_t hr1 hr2 hlt
          have hbA : Below g1 w5 (wr.setCell ⟨g1, i, none⟩ (.int .u8 ((97 + bb i % 26 : Nat) : Int))) := hbr.setCell (by show g1 ≤ g1; omega) _
          have HP : Hid _ := And.intro p1 (And.intro p2 hbA)
          clear p1 p2 hbA hr1 hr2 hbr
          have hrem : ((bb i : Nat) : Int).tmod 26 = ((bb i % 26 : Nat) : Int) := (Int.ofNat_tmod _ _).symm
          have hi2 : (i : Int).tmod 2 = ((i % 2 : Nat) : Int) := (Int.ofNat_tmod _ _).symm
          have hwv : (97 : Int) + ((bb i % 26 : Nat) : Int) = ((97 + bb i % 26 : Nat) : Int) := by omega
          have hii : (i : Int) < (t.size : Int) := by omega
          have hi0 : (0 : Int) ≤ (i : Int) := by omega
          have hr26 : bb i % 26 < 26 := Nat.mod_lt _ (by omega)
          by_cases hX : 97 + bb i % 26 = 97 + k
          · by_cases hE : i % 2 = 0
            · have hPW := put_w HP.out.1 HP.out.2.1 hlt (97 + bb i % 26) (97 + m) (by rw [if_pos ⟨hX, hE⟩])
              have hkv : (97 : Int) + (k : Int) = ((97 + bb i % 26 : Nat) : Int) := by omega
              have hmv : (97 : Int) + (m : Int) = ((97 + m : Nat) : Int) := by omega
              have HKM : Hid _ := And.intro hkv hmv
              clear hkv hmv
              go_wp2
              rw [HKM.out.1, HKM.out.2]
              exact ⟨⟨i + 1, by go_num, by omega, hPW.1, hPW.2, (HP.out.2.2.setCell (by show g1 ≤ g1 + 1; omega) _).setCell (by show g1 ≤ g1 + 1; omega) _⟩, by simp [intOf]; omega⟩
            · have hPU := put_u HP.out.1 HP.out.2.1 hlt (97 + bb i % 26) (by rw [if_neg (fun h => hE h.2)])
              have hE' : ((i % 2 : Nat) : Int) ≠ 0 := by omega
              have HKM : Hid ((97 : Int) + (k : Int) = ((97 + bb i % 26 : Nat) : Int)) := by show (97 : Int) + (k : Int) = _; omega
              go_wp2
              rw [HKM.out]
              exact ⟨⟨i + 1, by go_num, by omega, hPU.1, hPU.2, HP.out.2.2.setCell (by show g1 ≤ g1 + 1; omega) _⟩, by simp [intOf]; omega⟩
          · have hPU := put_u HP.out.1 HP.out.2.1 hlt (97 + bb i % 26) (by rw [if_neg (fun h => hX h.1)])
            have hX' : ¬ (97 : Int) + ((bb i % 26 : Nat) : Int) = 97 + (k : Int) := by omega
            have HKM : Hid ((97 : Int) + (bb i : Int) % 26 = ((97 + bb i % 26 : Nat) : Int)) := by show (97 : Int) + (bb i : Int) % 26 = _; omega
            go_wp2
            rw [HKM.out]
            exact ⟨⟨i + 1, by go_num, by omega, hPU.1, hPU.2, HP.out.2.2.setCell (by show g1 ≤ g1 + 1; omega) _⟩, by simp [intOf]; omega⟩
        · obtain rfl : i = t.size := by omega
          have zr := hbr.size
          obtain ⟨x1, hx1⟩ : ∃ x1 : List Int, x1 = (List.range t.size).map fun j => ((tF bb t.size j : Nat) : Int) := ⟨_, rfl⟩
          obtain ⟨x2, hx2⟩ : ∃ x2 : List Int, x2 = (List.range t.size).map fun j => ((uF bb (97 + k) (97 + m) t.size j : Nat) : Int) := ⟨_, rfl⟩
          have hl1 : x1.length = t.size := by rw [hx1]; simp
          have hl2 : x2.length = t.size := by rw [hx2]; simp
          have hg1' : ∀ j, j < t.size → x1[j]? = some ((tF bb t.size j : Nat) : Int) := fun j hj => by rw [hx1]; simp [hj]
          have hg2' : ∀ j, j < t.size → x2[j]? = some ((uF bb (97 + k) (97 + m) t.size j : Nat) : Int) := fun j hj => by rw [hx2]; simp [hj]
          have hs1 := run_convert_bytes_arg (P := Tryz.prog) wr 70 5 Tryz.underlying70 Tryz.underlying5 g1 0 t.size cap1 x1 hl1 (fun j hj => by rw [Nat.zero_add, hr1.cell j hj, List.getD, hg1' j hj]; rfl) 9 Tryz.underlying9
          have tv : ∀ j, j < t.size → tF bb t.size j = 97 + bb j % 26 := fun j hj => by unfold tF; rw [if_pos hj]
          have uv : ∀ j, j < t.size → uF bb (97 + k) (97 + m) t.size j = if 97 + bb j % 26 = 97 + k ∧ j % 2 = 0 then 97 + m else 97 + bb j % 26 := fun j hj => by unfold uF; rw [if_pos hj]
          have hm26 : ∀ j, bb j % 26 < 26 := fun j => Nat.mod_lt _ (by omega)
          have u128 : ∀ j, j < t.size → uF bb (97 + k) (97 + m) t.size j < 128 := fun j hj => by rw [uv j hj]; have := hm26 j; split <;> omega
          have a1 : ∀ j, j < t.size → U.at' (strOfNums x1) j = 97 + bb j % 26 := fun j hj => by rw [G.nums_at x1 j _ (hg1' j hj) (by rw [tv j hj]; have := hm26 j; omega), tv j hj]
          have a2 : ∀ j, j < t.size → U.at' (strOfNums x2) j = uF bb (97 + k) (97 + m) t.size j := fun j hj => G.nums_at x2 j _ (hg2' j hj) (by have := u128 j hj; omega)
          have s1 : (strOfNums x1).size = t.size := by rw [G.nums_size, hl1]
          have s2 : (strOfNums x2).size = t.size := by rw [G.nums_size, hl2]
          have HCUT : Hid (∀ l g l' g', CutIs T Q (strOfNums x1) l g → CutIs T Q (strOfNums x2) l' g' → l = l' ∧ g = g') := by
            intro l g l' g' h1 h2
            have hQ : ∀ q ∈ Q, G.tellB T (97 + (k : Int)) (97 + (m : Int)) q = false := fun q hq => by have := List.any_eq_false.1 HQ.out q hq; simpa using this
            have h1' : CutIs T Q (strOfNums x2) l g := by
              rcases h1 with ⟨e1, e2, e3⟩ | ⟨e1, e2, e3⟩
              · refine .inl ⟨by omega, e2, G.cut_asc hR5.wf hQ (by omega) (fun j hj => by rw [a1 j (by omega)]; have := hm26 j; omega) (fun j hj => by rw [a2 j (by omega)]; exact u128 j (by omega)) (fun j hj => ?_) e3⟩
                rw [a1 j (by omega), a2 j (by omega), uv j (by omega)]
                by_cases hcnd : 97 + bb j % 26 = 97 + k ∧ j % 2 = 0
                · rw [if_pos hcnd]
                  exact .inr ⟨.inl (by omega), .inr (by omega)⟩
                · rw [if_neg hcnd]
                  exact .inl rfl
              · exact .inr ⟨by omega, e2, e3⟩
            exact h1'.one h2
          have hRr := hR5.below (by rw [hg1]; exact hbr)
          have HR2 : Hid _ := And.intro hr2 (And.intro hg2' hl2)
          clear hx1 hx2 hg1' hg2' tv uv u128 a1 a2 hm26 hr1 hr2 HQ
          have hmx : (strOfNums x1).size ≤ maxLen := by rw [s1]; unfold maxLen; omega
          have hmy : (strOfNums x2).size ≤ maxLen := by rw [s2]; unfold maxLen; omega
          go_wp2_with fail
          refine (cut_all wr b T Q hRr (strOfNums x1) hmx).mono ?_
          rintro e w8 ⟨⟨v8, l8, g8, rfl, o8, hci8⟩, hb8⟩
          have z8 := hb8.size
          obtain ⟨a8, d8, hv8⟩ := Rf.own_len o8
          subst hv8
          have hr8 : BR w8 (g1 + 1) t.size (uF bb (97 + k) (97 + m) t.size) := by
            rcases Nat.eq_zero_or_pos t.size with e | e
            · exact ⟨fun j hj => by omega, fun j hj => by omega⟩
            · exact HR2.out.1.same (hb8.block (g1 + 1) (cell_in (HR2.out.1.cell 0 e)))
          have hs2 := run_convert_bytes_arg (P := Tryz.prog) w8 70 5 Tryz.underlying70 Tryz.underlying5 (g1 + 1) 0 t.size cap2 x2 HR2.out.2.2 (fun j hj => by rw [Nat.zero_add, hr8.cell j hj, List.getD, HR2.out.2.1 j hj]; rfl) 9 Tryz.underlying9
          clear hr8 hs1
          go_wp2_with fail
          refine (cut_all w8 b T Q (hRr.below hb8) (strOfNums x2) hmy).mono ?_
          rintro e w9 ⟨⟨v9, l9, g9, rfl, o9, hci9⟩, hb9⟩
          have z9 := hb9.size
          have hfew := hci8.few
          obtain ⟨rfl, rfl⟩ := HCUT.out _ _ _ _ hci8 hci9
          obtain ⟨a9, d9, hv9⟩ := Rf.own_len o9
          subst hv9
          have o8' := Rf.own_same o8 (fun j e => hb9.block j (o8.lt j e).2)
          clear hs2 o8
          go_wp2_with fail
          refine (sameCut_any w9 l8 l8 _ _ o8' o9 (by omega) (SegEq.refl l8)).mono ?_
          rintro e w10 ⟨rfl, hb10⟩
          go_wp2
          go_ret
          exact ⟨rfl, ((hB5.trans (hbr.mono (by omega))).trans (hb8.mono (by have := hB5.size; omega))).trans ((hb9.mono (by have := hB5.size; omega)).trans (hb10.mono (by have := hB5.size; omega)))⟩
end Pr
end Go.Proofs.YtpgcidpghmoibaaGreatDoor
