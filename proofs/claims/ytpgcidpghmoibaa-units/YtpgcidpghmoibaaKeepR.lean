/-
  THE WALK of keepRunes: as keepInts, of runes. Conditions: the list is no part of the book; bounds on lengths and on how many were kept.
-/
import Derived.Test.YtpgcidpghmoibaaKeepI
namespace Go.Proofs.Ytpgcidpghmoibaa
open Go.RowKit

theorem infoRl : (Try.prog.info? 29).map (fun i => (i.zero, i.size, i.bytes)) = some (some (.slice none 0 0), 1, 24) := by kernel_rfl

theorem full1 (n : Nat) (m : Int) : full 1 n m = List.replicate n (.int .i32 m) := by
  induction n with
  | zero => rfl
  | succ n ih => rw [full_snoc, ih, List.replicate_succ']; rfl

set_option maxRecDepth 100000 in
set_option maxHeartbeats 1000000 in
theorem keepRunes_any (w : World) (b : Nat) (S : Nat → Prop) (c n : Nat) (l : Value) (xs : List Value) (hB : Book w b S c) (hc : c ≤ 100000000) (hl : w.ownsRow 0 21 1 l n xs) (hn : n ≤ 1000000000) (hlS : ∀ k, l.ownBlock = some k → ¬ S k) :
    Calls Try.prog 8 #[.pointer (some ⟨b, 0, none⟩), l] w fun e w' => e = .returned (.tuple #[]) ∧ Book w' b (fun k => S k ∨ l.ownBlock = some k ∨ w.heap.size ≤ k) (c + 1) ∧ Kept (fun k => ¬ S k ∧ l.ownBlock ≠ some k) w w' := by
  obtain ⟨i0, hi, hz0, hz1, hz2⟩ := info_parts infoInt
  obtain ⟨j0, hj0, hy0, hy1, hy2⟩ := info_parts infoI32
  obtain ⟨i1, hi1, hq0, hq1, hq2⟩ := info_parts infoRl
  obtain ⟨rL, rM, L, M, BA, hlen, hmk, hin⟩ := hB
  obtain ⟨a, cp, hla⟩ := own_len' hl
  subst hla
  have cb0 := cell_blk BA.blk 0 (.int .i64 (c : Int)) rfl
  have fb0 := free_blk BA.blk 0
  go_enter Try.func8, Try.ntmps8
  go_wp2
  have hn1 : xs.length = n := by have := hl.1; omega
  have hS : ∀ k, InBook b rL rM L k → (Value.slice a n cp).ownBlock ≠ some k := fun k hk e => hlS k e (hin k hk)
  have hlb : (Value.slice a n cp).ownBlock ≠ some b := hS b (.inl rfl)
  go_loopw [4] (fun i wr => ∃ k : Nat, k ≤ n ∧ i = .int .i64 k ∧ BookAt wr b ((c : Int) + 1) rL rM L M ∧ wr.ownsRow 0 21 1 (.slice a n cp) n (List.replicate k (.int .i32 (-((c : Int) + 1))) ++ xs.drop k) ∧ Kept (fun j => ¬ S j ∧ (Value.slice a n cp).ownBlock ≠ some j) w wr)
    (fun i _ => n - (intOf i).toNat)
  case atStart => exact ⟨0, Nat.zero_le _, rfl, BA.mark _, by simpa using own_same hl (fun k e => Below.heap_setCell _ _ _ _ (fun (e2 : k = b) => hlb (e2 ▸ e))), (Kept.refl _ _).setCell (fun h => h.1 (hin b (.inl rfl))) _⟩
  case round =>
    obtain ⟨k, hk, rfl, BR, hown, hkp⟩ := hrel
    have cr0 := cell_blk BR.blk 0 (.int .i64 ((c : Int) + 1)) rfl
    clear cb0 fb0
    by_cases hlt : k < n
    · obtain ⟨g, cap, hv, _, _⟩ := hown.form (by omega)
      simp only [Value.slice.injEq] at hv
      obtain ⟨rfl, _, rfl⟩ := hv
      have cg : (wr.cell? ⟨g, k, none⟩).isSome = true := by rw [hown.cellAt k (by omega)]; simp; omega
      obtain ⟨u0, cg⟩ := Option.isSome_iff_exists.1 cg
      have fg := hown.frozenAt k
      have hst := hown.stored k (.int .i32 (-((c : Int) + 1)))
      have BR2 : BookAt (wr.setCell ⟨g, k, none⟩ (.int .i32 (-((c : Int) + 1)))) b ((c : Int) + 1) rL rM L M := BR.same (by simp [World.setCell]) (fun j hj => Below.heap_setCell _ _ _ _ (fun (e2 : j = g) => hS j hj (by rw [e2]; rfl)))
      have hkp2 := hkp.setCell (q := ⟨g, k, none⟩) (fun h => h.2 rfl) (.int .i32 (-((c : Int) + 1)))
      have HX : Hid _ := And.intro BR2 (And.intro hst hkp2)
      clear BR2 hst hkp2
      go_wp2
      go_roundw
      case rel => exact ⟨k + 1, by omega, by go_num, HX.out.1, by rw [← set_full xs _ k (by omega)]; exact HX.out.2.1.1, HX.out.2.2⟩
      case measure => simp [intOf]; omega
    · obtain rfl : k = n := by omega
      have hown' : wr.ownsRow 0 21 1 (.slice a k cp) k (full 1 k (-((c : Int) + 1))) := by rw [full1]; simpa [List.drop_of_length_le (Nat.le_of_eq hn1)] using hown
      have K0 : KS w wr b S c 1 (.slice a k cp) k 0 0 (.slice a k cp) rL rM L M :=
        ⟨BR, ⟨hown', hlb, fun i => ⟨fun g e e2 => hS g (.inr (.inl ⟨i, e2⟩)) e, fun g e e2 => hS g (.inr (.inr (.inl ⟨i, e2⟩))) e⟩,
          fun t i l' m' hl' _ g e e2 => absurd e (hS g (.inr (.inr (.inr ⟨t, l', List.mem_of_getElem? hl', e2⟩))))⟩,
          fun t _ => (hlen t).1, (hlen 1).1, fun t => by have := hlen t; omega, (fun e => by cases e), fun t m hm => by have := hmk t m hm; omega, fun i hi => .inl (hin i hi), fun i e => .inl e, hkp⟩
      have hSb : S b := hin b (.inl rfl)
      have HK0 : Hid _ := K0
      clear K0 BR hown hown' hkp cr0 hlen hmk hin BA hl hn1 hS hlb hlS
      go_wp2
      go_loopw [1, 5] (fun lv i wr => ∃ (j : Nat) (rL rM : Fin 3 → Value) (L : Fin 3 → List Value) (M : Fin 3 → List Int), j ≤ 4 ∧ i = .int .i64 j ∧ KS w wr b S c 1 (.slice a k cp) (k + j) j 0 lv rL rM L M) (fun _ i _ => 4 - (intOf i).toNat)
      case atStart => exact ⟨0, rL, rM, L, M, by omega, rfl, HK0.out⟩
      case round =>
        clear HK0
        obtain ⟨j, rL, rM, L, M, hj, rfl, KA⟩ := hrel
        by_cases hj4 : j < 4
        · obtain ⟨la, lc, hlv⟩ := own_len' KA.cu.own
          subst hlv
          have cb1 := cell_blk KA.ba.blk 3 (rL 1) rfl
          have fb1 := free_blk KA.ba.blk 3
          have bd0 := KA.bd 1
          have l0 := KA.l0
          have hbl := lt_of_block KA.ba.blk
          have nb0 := KA.ba.nbL 1
          have oL : wr.ownsRow 0 29 1 (rL 1) (L 1).length (L 1) := KA.ba.oL 1
          have bl0 : (L 1).length ≤ 4 * c + j := by omega
          have HKA : Hid _ := KA
          clear KA l0 bd0
          go_wp2_with
           (at_builtin
            refine wpList_append_lies _ rfl (.tmp 37) (.tmp 39) 25 rfl 0 29 i1 (.slice none 0 0) 1 24 Try.underlying25 hi1 hq0 hq1 hq2 rfl (by decide) _ _ _ rfl (oL.alloc _) ⟨wr.heap.size, 0, none⟩ 1 1 [.slice la (k + j) lc] rfl rfl (cell_one_new _ _ _) (fun x hx => by simp at hx; subst hx; rfl) (by decide) (by unfold maxLen; omega) (by omega) (by simp) (wr.heap.size + 1) (by simp) ?_
            intro g1 cap1 w2 hn1 hg1 hat1 hlt1
            have hb2 : w2.heap[b]? = _ := (hg1.block b (by simp; omega) (fun e => nb0 e.symm)).trans ((Below.heap_alloc _ _ _ hbl).trans HKA.out.ba.blk)
            have cb1' := cell_blk hb2 3 (rL 1) rfl
            have fb1' := free_blk hb2 3
            clear hb2 cb1 fb1)
          obtain ⟨rL1, L1, KB⟩ : ∃ rL1 L1, KS w (w2.setCell ⟨b, 3, none⟩ (.slice (some ⟨g1, 0, none⟩) ((L 1).length + 1) cap1)) b S c 1 (.slice a k cp) (k + j) j 1 (.slice la (k + j) lc) rL1 rM L1 M :=
            ⟨_, _, HKA.out.A hSb ((Kept.refl _ _).alloc _) hg1 hn1 (lies_of hat1 (by omega))⟩
          clear cb1' fb1' hn1 hg1 hat1 hlt1 HKA oL bl0 nb0 hbl
          generalize w2.setCell ⟨b, 3, none⟩ (.slice (some ⟨g1, 0, none⟩) ((L 1).length + 1) cap1) = w3 at KB ⊢
          have cb0 := cell_blk KB.ba.blk 0 (.int .i64 ((c : Int) + 1)) rfl
          have cb2 := cell_blk KB.ba.blk 4 (rM 1) rfl
          have fb2 := free_blk KB.ba.blk 4
          have bd0 := KB.bd 1
          have hbl := lt_of_block KB.ba.blk
          have nb0 := KB.ba.nbM 1
          have oM : w3.ownsRow 0 3 1 (rM 1) (M 1).length ((M 1).map (Value.int .i64)) := KB.ba.oM 1
          have HKB : Hid _ := KB
          clear KB
          obtain ⟨mk, hm, hm1, hm2⟩ : ∃ mk : Int, (c : Int) + 1 = mk ∧ 1 ≤ mk ∧ mk ≤ 100000001 := ⟨_, rfl, by omega, by omega⟩
          have hwr : IntKind.i64.wrap (-mk) = -mk := wrap_neg mk hm1 hm2
          rw [hm] at cb0 ⊢
          have HM : Hid ((c : Int) + 1 = mk) := hm
          clear hm
          go_region_law
            ((refine step_append_lies _ (by rfl) _ _ _ (by rfl) 0 3 i0 _ 1 8 Try.underlying24 hi hz0 hz1 hz2 rfl (by omega) (rM 1) (M 1).length ((M 1).map (Value.int .i64)) (by rfl) ((oM.alloc _).drew)
                ⟨w3.heap.size, 0, none⟩ 1 1 [.int .i64 (-mk)] (by rfl) (by rfl) (World.news_of_block (cs := #[.int .i64 (-mk)]) (t := 3) (fr := (0, 0)) (heap_alloc_new w3 _)) (by simp [Value.oneCell'])
                (by omega) (by unfold maxLen; omega) (by omega) (by simp) (w3.heap.size + 1) (by simp) ?_; intro g2 cap2 w4 hn2 hg2 hat2 hlt2; have hb4 : w4.heap[b]? = _ := (hg2.block b (by simp; omega) (fun e => nb0 e.symm)).trans ((Below.heap_alloc _ _ _ hbl).trans HKB.out.ba.blk); have fb2' := free_blk hb4 4; have cb2' := cell_blk hb4 4 (rM 1) rfl; clear hb4))
          all_goals
            obtain ⟨rM1, M1, KC⟩ : ∃ rM1 M1, KS w (w4.setCell ⟨b, 4, none⟩ (.slice (some ⟨g2, 0, none⟩) ((M 1).length + 1) cap2)) b S c 1 (.slice a k cp) (k + j) (j + 1) 0 (.slice la (k + j) lc) rL1 rM1 L1 M1 :=
              ⟨_, _, HKB.out.B hSb (((Kept.refl _ _).alloc _).drew) hg2 (by rw [HM.out]; exact hn2) (lies_of hat2 (by omega))⟩
            clear cb2' fb2' hn2 hg2 hat2 hlt2 HKB oM nb0 hbl cb0 cb2 fb2 bd0 hwr
            generalize w4.setCell ⟨b, 4, none⟩ (.slice (some ⟨g2, 0, none⟩) ((M 1).length + 1) cap2) = w5 at KC ⊢
            have cb0 : w5.cell? ⟨b, 0, none⟩ = some (.int .i64 mk) := by rw [← HM.out]; exact cell_blk KC.ba.blk 0 (.int .i64 ((c : Int) + 1)) rfl
            have own5 : w5.ownsRow 0 21 1 (.slice la (k + j) lc) (k + j) (full 1 (k + j) (-mk)) := by rw [← HM.out]; exact KC.cu.own
            have HKC : Hid _ := KC
            clear KC
            go_wp2_with
             (at_builtin
              refine wpList_append_split _ rfl (.tmp 57) (.tmp 64) 29 rfl 0 21 j0 (.int .i32 0) 1 4 Try.underlying29 hj0 hy0 hy1 hy2 rfl (by decide) _ _ _ rfl (own5.alloc _) ⟨w5.heap.size, 0, none⟩ 1 1 [.int .i32 (-mk)] rfl rfl (cell_one_new _ _ _) (fun x hx => by simp at hx; subst hx; rfl) (by decide) (by unfold maxLen; omega) (by omega) (by simp) ?_
              intro v3 w6 hn3 hg3 hs3
              have KD : KS w w6 b S c 1 (.slice a k cp) (k + j + 1) (j + 1) 0 v3 rL1 rM1 L1 M1 := HKC.out.C ((Kept.refl _ _).alloc _) hg3 (by rw [HM.out]; exact hn3) hs3
              have HKD : Hid _ := KD
              clear KD hn3 hg3 hs3 own5 HKC cb0)
            have hm := HM.out
            subst hm
            go_roundw
            case rel => exact ⟨j + 1, rL1, rM1, L1, M1, by omega, by go_num, HKD.out⟩
            case measure => simp [intOf]; omega
        · obtain rfl : j = 4 := by omega
          go_wp2
          go_end0
          refine ⟨rfl, ⟨rL, rM, L, M, KA.ba, fun t => ?_, fun t m hm => ?_, KA.foot⟩, KA.kept⟩
          · have h1 := KA.bd t
            by_cases e : t = 1
            · subst e
              have := KA.l0
              omega
            · have := KA.lo t e
              omega
          · have := KA.mks t m hm
            omega

end Go.Proofs.Ytpgcidpghmoibaa
