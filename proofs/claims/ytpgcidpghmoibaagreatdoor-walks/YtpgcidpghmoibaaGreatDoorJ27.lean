/-
  THE BOOK of the statements: a book whose blocks are all in a set, after some lists were kept; small facts on memory. Nothing of the program is run here. Conditions stand at each fact.
  BOOKS AND ROWS that stand while other memory is written; an empty book. Nothing of the program is run here. Conditions stand at each fact.
  THE WALK of keepSegments: as keepInts, of segments. Conditions: the list is no part of the book; bounds on lengths and on how many were kept.
-/
import Derived.Test.YtpgcidpghmoibaaGreatDoorJ26
import Derived.Deep.AppendLies
import Derived.Deep.RegionLaw
namespace Go.Proofs.YtpgcidpghmoibaaGreatDoor
open Go.RowKit

/-- A book whose blocks are all in S, after c lists were kept. -/
def Book (w : World) (b : Nat) (S : Nat → Prop) (c : Nat) : Prop :=
  ∃ rL rM L M, BookAt w b (c : Int) rL rM L M ∧ (∀ t, (L t).length = (M t).length ∧ (L t).length ≤ 4 * c) ∧ (∀ t, ∀ m ∈ M t, -(c : Int) ≤ m ∧ m ≤ 0) ∧ ∀ k, InBook b rL rM L k → S k

theorem infoIl : (Tryz.prog.info? 33).map (fun i => (i.zero, i.size, i.bytes)) = some (some (.slice none 0 0), 1, 24) := by kernel_rfl

theorem cell_blk {w : World} {b : Nat} {cs : Array Value} {t : TypeId} (h : w.heap[b]? = some (.cells cs t (0, 0))) (i : Nat) (v : Value) (hv : cs[i]? = some v) : w.cell? ⟨b, i, none⟩ = some v := by
  simp [World.cell?, h, hv]
theorem free_blk {w : World} {b : Nat} {cs : Array Value} {t : TypeId} (h : w.heap[b]? = some (.cells cs t (0, 0))) (i : Nat) : w.frozen? ⟨b, i, none⟩ = false := by
  simp [World.frozen?, h]

theorem lies_of {w : World} {u : Value} {g n cap H : Nat} (h : u.ownBlock = some g ∨ g = H) (hH : w.heap.size ≤ H) : Lies w u (.slice (some ⟨g, 0, none⟩) n cap) := by
  rcases h with h | h
  · exact .inl (by rw [h]; rfl)
  · exact .inr ⟨g, rfl, by omega⟩

theorem wrap_neg (m : Int) (h1 : 1 ≤ m) (h2 : m ≤ 100000001) : IntKind.i64.wrap (-m) = -m := by
  rw [IntKind.wrap_i64]; omega

theorem set_full {α : Type} (xs : List α) (u : α) (k : Nat) (h : k < xs.length) : (List.replicate k u ++ xs.drop k).set k u = List.replicate (k + 1) u ++ xs.drop (k + 1) := by
  rw [List.set_append_right _ _ (by simp)]
  simp only [List.length_replicate, Nat.sub_self]
  rw [List.drop_eq_getElem_cons h, List.set_cons_zero, List.replicate_succ', List.append_assoc]
  rfl

theorem own_cell1 {w : World} {b e n g cap : Nat} {xs : List Value} (h : w.ownsRow b e 1 (.slice (some ⟨g, 0, none⟩) n cap) n xs) {k : Nat} {u : Value} (hu : xs[k]? = some u) : w.cell? ⟨g, k, none⟩ = some u := by
  have := h.cells (g := g) rfl k u hu
  have hadd : (⟨g, 0, none⟩ : Addr).add k = ⟨g, k, none⟩ := by unfold Addr.add; split <;> simp_all
  rw [hadd] at this
  exact this

end Go.Proofs.YtpgcidpghmoibaaGreatDoor

namespace Go.Proofs.YtpgcidpghmoibaaGreatDoor
open Go.RowKit

theorem Book.same {w w' : World} {b c : Nat} {S : Nat → Prop} (h : Book w b S c) (hsz : w.heap.size ≤ w'.heap.size) (hk : ∀ k, k < w.heap.size → S k → w'.heap[k]? = w.heap[k]?) : Book w' b S c := by
  obtain ⟨rL, rM, L, M, BA, h1, h2, h3⟩ := h
  exact ⟨rL, rM, L, M, BA.same hsz (fun k hin => hk k (BA.inlt k hin) (h3 k hin)), h1, h2, h3⟩
theorem Book.mono {w : World} {b c : Nat} {S T : Nat → Prop} (h : Book w b S c) (hk : ∀ k, k < w.heap.size → S k → T k) : Book w b T c := by
  obtain ⟨rL, rM, L, M, BA, h1, h2, h3⟩ := h
  exact ⟨rL, rM, L, M, BA, h1, h2, fun k hin => hk k (BA.inlt k hin) (h3 k hin)⟩
theorem Book.below {w w' : World} {b c : Nat} {S : Nat → Prop} (h : Book w b S c) (hb : Below w.heap.size w w') : Book w' b S c := h.same hb.size (fun k hk _ => hb.block k hk)

/-- A row that is no part of what was written stands. -/
theorem own_kept {p : Nat → Prop} {w w' : World} {e size n : Nat} {v : Value} {xs : List Value} (h : w.ownsRow 0 e size v n xs) (hk : Kept p w w') (hp : ∀ k, v.ownBlock = some k → p k) : w'.ownsRow 0 e size v n xs :=
  own_same h (fun k e => hk.block k (h.lt k e).2 (hp k e))
theorem own_belowAll {w w' : World} {e size n : Nat} {v : Value} {xs : List Value} (h : w.ownsRow 0 e size v n xs) (hb : Below w.heap.size w w') : w'.ownsRow 0 e size v n xs :=
  own_same h (fun k e => hb.block k (h.lt k e).2)

/-- An empty book. -/
theorem book_new (w : World) (S : Nat → Prop) (hS : S w.heap.size) : Book (w.alloc (.cells #[.int .i64 0, .slice none 0 0, .slice none 0 0, .slice none 0 0, .slice none 0 0, .slice none 0 0, .slice none 0 0] 44)) w.heap.size S 0 := by
  refine ⟨fun _ => .slice none 0 0, fun _ => .slice none 0 0, fun _ => [], fun _ => [], ⟨heap_alloc_new w _, fun t => World.ownsRow_nil _ _ _ _, fun t => World.ownsRow_nil _ _ _ _, fun t k l m h => by simp at h, fun t l h => by simp at h, fun i j _ => Apart.nil _, fun i j _ => Apart.nil _, fun i j => Apart.nil _, fun i => by simp [Value.ownBlock], fun i => by simp [Value.ownBlock], fun t l h => by simp at h⟩, fun t => by simp, fun t m h => by simp at h, ?_⟩
  rintro k (rfl | ⟨t, ht⟩ | ⟨t, ht⟩ | ⟨t, l, hl, _⟩)
  · exact hS
  · simp [Value.ownBlock] at ht
  · simp [Value.ownBlock] at ht
  · simp at hl

end Go.Proofs.YtpgcidpghmoibaaGreatDoor

namespace Go.Proofs.YtpgcidpghmoibaaGreatDoor
open Go.RowKit

theorem infoSl : (Tryz.prog.info? 60).map (fun i => (i.zero, i.size, i.bytes)) = some (some (.slice none 0 0), 1, 24) := by kernel_rfl

theorem infoSgs : (Tryz.prog.info? 65).map (fun i => (i.zero, i.size, i.bytes)) = some (some (.agg #[.int .i64 0, .int .i64 0, .int .i64 0]), 3, 24) := by kernel_rfl
theorem set_full3 (xs : List Value) (m : Int) (k : Nat) (h : (k + 1) * 3 ≤ xs.length) : (((full 2 k m ++ xs.drop (k * 3)).set (k * 3) (.int .i64 m)).set (k * 3 + 1) (.int .i64 0)).set (k * 3 + 2) (.int .i64 0) = full 2 (k + 1) m ++ xs.drop ((k + 1) * 3) := by
  have hl : (full 2 k m).length = k * 3 := full_len 2 k m
  have e : xs.drop (k * 3) = xs[k * 3]'(by omega) :: xs[k * 3 + 1]'(by omega) :: xs[k * 3 + 2]'(by omega) :: xs.drop ((k + 1) * 3) := by
    rw [List.drop_eq_getElem_cons (by omega), List.drop_eq_getElem_cons (i := k * 3 + 1) (by omega), List.drop_eq_getElem_cons (i := k * 3 + 1 + 1) (by omega)]
    congr 4
    omega
  rw [e, List.set_append_right _ _ (by omega), hl, Nat.sub_self, List.set_cons_zero, List.set_append_right _ _ (by omega), hl, show k * 3 + 1 - k * 3 = 1 by omega, List.set_cons_succ, List.set_cons_zero, List.set_append_right _ _ (by omega), hl, show k * 3 + 2 - k * 3 = 2 by omega, List.set_cons_succ, List.set_cons_succ, List.set_cons_zero, full_snoc, List.append_assoc]
  rfl

set_option maxRecDepth 100000 in
set_option maxHeartbeats 1000000 in
theorem keepSegs_any (w : World) (b : Nat) (S : Nat → Prop) (c n : Nat) (l : Value) (xs : List Value) (hB : Book w b S c) (hc : c ≤ 100000000) (hl : w.ownsRow 0 65 3 l n xs) (hn : n ≤ 1000000000) (hlS : ∀ k, l.ownBlock = some k → ¬ S k) :
    Calls Tryz.prog 59 #[.pointer (some ⟨b, 0, none⟩), l] w fun e w' => e = .returned (.tuple #[]) ∧ Book w' b (fun k => S k ∨ l.ownBlock = some k ∨ w.heap.size ≤ k) (c + 1) ∧ Kept (fun k => ¬ S k ∧ l.ownBlock ≠ some k) w w' := by
  obtain ⟨i0, hi, hz0, hz1, hz2⟩ := info_parts infoInt
  obtain ⟨j0, hj0, hy0, hy1, hy2⟩ := info_parts infoSgs
  obtain ⟨i1, hi1, hq0, hq1, hq2⟩ := info_parts infoSl
  obtain ⟨rL, rM, L, M, BA, hlen, hmk, hin⟩ := hB
  obtain ⟨a, cp, hla⟩ := own_len' hl
  subst hla
  have cb0 := cell_blk BA.blk 0 (.int .i64 (c : Int)) rfl
  have fb0 := free_blk BA.blk 0
  go_enter Tryz.func59, Tryz.ntmps59
  go_wp2
  have hn1 : xs.length = n * 3 := hl.1
  have hS : ∀ k, InBook b rL rM L k → (Value.slice a n cp).ownBlock ≠ some k := fun k hk e => hlS k e (hin k hk)
  have hlb : (Value.slice a n cp).ownBlock ≠ some b := hS b (.inl rfl)
  go_loopw [4] (fun i wr => ∃ k : Nat, k ≤ n ∧ i = .int .i64 k ∧ BookAt wr b ((c : Int) + 1) rL rM L M ∧ wr.ownsRow 0 65 3 (.slice a n cp) n (full 2 k (-((c : Int) + 1)) ++ xs.drop (k * 3)) ∧ Kept (fun j => ¬ S j ∧ (Value.slice a n cp).ownBlock ≠ some j) w wr)
    (fun i _ => n - (intOf i).toNat)
  case atStart => exact ⟨0, Nat.zero_le _, rfl, BA.mark _, by rw [show full 2 0 (-((c : Int) + 1)) ++ xs.drop (0 * 3) = xs by simp [full]]; exact own_same hl (fun k e => Below.heap_setCell _ _ _ _ (fun (e2 : k = b) => hlb (e2 ▸ e))), (Kept.refl _ _).setCell (fun h => h.1 (hin b (.inl rfl))) _⟩
  case round =>
    obtain ⟨k, hk, rfl, BR, hown, hkp⟩ := hrel
    have cr0 := cell_blk BR.blk 0 (.int .i64 ((c : Int) + 1)) rfl
    clear cb0 fb0
    by_cases hlt : k < n
    · obtain ⟨g, cap, hv, _, _⟩ := hown.form (by omega)
      simp only [Value.slice.injEq] at hv
      obtain ⟨rfl, _, rfl⟩ := hv
      have cgg : ∀ o, o < 3 → ∃ u, wr.cell? ⟨g, k * 3 + o, none⟩ = some u := fun o ho => by
        have : (wr.cell? ⟨g, k * 3 + o, none⟩).isSome = true := by rw [hown.cellAt (k * 3 + o) (by omega)]; simp [full_len, elS]; omega
        exact Option.isSome_iff_exists.1 this
      obtain ⟨u0, cg0⟩ := cgg 0 (by omega)
      obtain ⟨u1, cg1⟩ := cgg 1 (by omega)
      obtain ⟨u2, cg2⟩ := cgg 2 (by omega)
      rw [Nat.add_zero] at cg0
      have fg := fun o => hown.frozenAt o
      have hst := ((((hown.stored (k * 3) (.int .i64 (-((c : Int) + 1)))).1.stored (k * 3 + 1) (.int .i64 0)).1).stored (k * 3 + 2) (.int .i64 0)).1
      rw [set_full3 xs _ k (by omega)] at hst
      have hgs : ∀ j, InBook b rL rM L j → j ≠ g := fun j hj e2 => hS j hj (by rw [e2]; rfl)
      have BR2 : BookAt (((wr.setCell ⟨g, k * 3, none⟩ (.int .i64 (-((c : Int) + 1)))).setCell ⟨g, k * 3 + 1, none⟩ (.int .i64 0)).setCell ⟨g, k * 3 + 2, none⟩ (.int .i64 0)) b ((c : Int) + 1) rL rM L M := BR.same (by simp [World.setCell]) (fun j hj => (Below.heap_setCell _ _ _ _ (hgs j hj)).trans ((Below.heap_setCell _ _ _ _ (hgs j hj)).trans (Below.heap_setCell _ _ _ _ (hgs j hj))))
      have hkp2 := ((hkp.setCell (q := ⟨g, k * 3, none⟩) (fun h => h.2 rfl) (.int .i64 (-((c : Int) + 1)))).setCell (q := ⟨g, k * 3 + 1, none⟩) (fun h => h.2 rfl) (.int .i64 0)).setCell (q := ⟨g, k * 3 + 2, none⟩) (fun h => h.2 rfl) (.int .i64 0)
      have HX : Hid _ := And.intro BR2 (And.intro hst hkp2)
      clear BR2 hst hkp2
      go_wp2
      go_roundw
      case rel => exact ⟨k + 1, by omega, by go_num, HX.out.1, HX.out.2.1, HX.out.2.2⟩
      case measure => simp [intOf]; omega
    · obtain rfl : k = n := by omega
      have hown' : wr.ownsRow 0 65 3 (.slice a k cp) k (full 2 k (-((c : Int) + 1))) := by simpa [List.drop_of_length_le (Nat.le_of_eq hn1)] using hown
      have K0 : KS w wr b S c 2 (.slice a k cp) k 0 0 (.slice a k cp) rL rM L M :=
        ⟨BR, ⟨hown', hlb, fun i => ⟨fun g e e2 => hS g (.inr (.inl ⟨i, e2⟩)) e, fun g e e2 => hS g (.inr (.inr (.inl ⟨i, e2⟩))) e⟩,
          fun t i l' m' hl' _ g e e2 => absurd e (hS g (.inr (.inr (.inr ⟨t, l', List.mem_of_getElem? hl', e2⟩))))⟩,
          fun t _ => (hlen t).1, (hlen 2).1, fun t => by have := hlen t; omega, (fun e => by cases e), fun t m hm => by have := hmk t m hm; omega, fun i hi => .inl (hin i hi), fun i e => .inl e, hkp⟩
      have hSb : S b := hin b (.inl rfl)
      have HK0 : Hid _ := K0
      clear K0 BR hown hown' hkp cr0 hlen hmk hin BA hl hn1 hS hlb hlS
      go_wp2
      go_loopw [1, 5] (fun lv i wr => ∃ (j : Nat) (rL rM : Fin 3 → Value) (L : Fin 3 → List Value) (M : Fin 3 → List Int), j ≤ 4 ∧ i = .int .i64 j ∧ KS w wr b S c 2 (.slice a k cp) (k + j) j 0 lv rL rM L M) (fun _ i _ => 4 - (intOf i).toNat)
      case atStart => exact ⟨0, rL, rM, L, M, by omega, rfl, HK0.out⟩
      case round =>
        clear HK0
        obtain ⟨j, rL, rM, L, M, hj, rfl, KA⟩ := hrel
        by_cases hj4 : j < 4
        · obtain ⟨la, lc, hlv⟩ := own_len' KA.cu.own
          subst hlv
          have cb1 := cell_blk KA.ba.blk 5 (rL 2) rfl
          have fb1 := free_blk KA.ba.blk 5
          have bd0 := KA.bd 2
          have l0 := KA.l0
          have hbl := lt_of_block KA.ba.blk
          have nb0 := KA.ba.nbL 2
          have oL : wr.ownsRow 0 60 1 (rL 2) (L 2).length (L 2) := KA.ba.oL 2
          have bl0 : (L 2).length ≤ 4 * c + j := by omega
          have HKA : Hid _ := KA
          clear KA l0 bd0
          go_wp2_with
           (at_builtin
            refine wpList_append_lies _ rfl (.tmp 37) (.tmp 39) 42 rfl 0 60 i1 (.slice none 0 0) 1 24 Tryz.underlying42 hi1 hq0 hq1 hq2 rfl (by decide) _ _ _ rfl (oL.alloc _) ⟨wr.heap.size, 0, none⟩ 1 1 [.slice la (k + j) lc] rfl rfl (cell_one_new _ _ _) (fun x hx => by simp at hx; subst hx; rfl) (by decide) (by unfold maxLen; omega) (by omega) (by simp) (wr.heap.size + 1) (by simp) ?_
            intro g1 cap1 w2 hn1 hg1 hat1 hlt1
            have hb2 : w2.heap[b]? = _ := (hg1.block b (by simp; omega) (fun e => nb0 e.symm)).trans ((Below.heap_alloc _ _ _ hbl).trans HKA.out.ba.blk)
            have cb1' := cell_blk hb2 5 (rL 2) rfl
            have fb1' := free_blk hb2 5
            clear hb2 cb1 fb1)
          obtain ⟨rL1, L1, KB⟩ : ∃ rL1 L1, KS w (w2.setCell ⟨b, 5, none⟩ (.slice (some ⟨g1, 0, none⟩) ((L 2).length + 1) cap1)) b S c 2 (.slice a k cp) (k + j) j 1 (.slice la (k + j) lc) rL1 rM L1 M :=
            ⟨_, _, HKA.out.A hSb ((Kept.refl _ _).alloc _) hg1 hn1 (lies_of hat1 (by omega))⟩
          clear cb1' fb1' hn1 hg1 hat1 hlt1 HKA oL bl0 nb0 hbl
          generalize w2.setCell ⟨b, 5, none⟩ (.slice (some ⟨g1, 0, none⟩) ((L 2).length + 1) cap1) = w3 at KB ⊢
          have cb0 := cell_blk KB.ba.blk 0 (.int .i64 ((c : Int) + 1)) rfl
          have cb2 := cell_blk KB.ba.blk 6 (rM 2) rfl
          have fb2 := free_blk KB.ba.blk 6
          have bd0 := KB.bd 2
          have hbl := lt_of_block KB.ba.blk
          have nb0 := KB.ba.nbM 2
          have oM : w3.ownsRow 0 3 1 (rM 2) (M 2).length ((M 2).map (Value.int .i64)) := KB.ba.oM 2
          have HKB : Hid _ := KB
          clear KB
          obtain ⟨mk, hm, hm1, hm2⟩ : ∃ mk : Int, (c : Int) + 1 = mk ∧ 1 ≤ mk ∧ mk ≤ 100000001 := ⟨_, rfl, by omega, by omega⟩
          have hwr : IntKind.i64.wrap (-mk) = -mk := wrap_neg mk hm1 hm2
          rw [hm] at cb0 ⊢
          have HM : Hid ((c : Int) + 1 = mk) := hm
          clear hm
          go_region_law
            ((refine step_append_lies _ (by rfl) _ _ _ (by rfl) 0 3 i0 _ 1 8 Tryz.underlying33 hi hz0 hz1 hz2 rfl (by omega) (rM 2) (M 2).length ((M 2).map (Value.int .i64)) (by rfl) ((oM.alloc _).drew)
                ⟨w3.heap.size, 0, none⟩ 1 1 [.int .i64 (-mk)] (by rfl) (by rfl) (World.news_of_block (cs := #[.int .i64 (-mk)]) (t := 3) (fr := (0, 0)) (heap_alloc_new w3 _)) (by simp [Value.oneCell'])
                (by omega) (by unfold maxLen; omega) (by omega) (by simp) (w3.heap.size + 1) (by simp) ?_; intro g2 cap2 w4 hn2 hg2 hat2 hlt2; have hb4 : w4.heap[b]? = _ := (hg2.block b (by simp; omega) (fun e => nb0 e.symm)).trans ((Below.heap_alloc _ _ _ hbl).trans HKB.out.ba.blk); have fb2' := free_blk hb4 6; have cb2' := cell_blk hb4 6 (rM 2) rfl; clear hb4))
          all_goals
            obtain ⟨rM1, M1, KC⟩ : ∃ rM1 M1, KS w (w4.setCell ⟨b, 6, none⟩ (.slice (some ⟨g2, 0, none⟩) ((M 2).length + 1) cap2)) b S c 2 (.slice a k cp) (k + j) (j + 1) 0 (.slice la (k + j) lc) rL1 rM1 L1 M1 :=
              ⟨_, _, HKB.out.B hSb (((Kept.refl _ _).alloc _).drew) hg2 (by rw [HM.out]; exact hn2) (lies_of hat2 (by omega))⟩
            clear cb2' fb2' hn2 hg2 hat2 hlt2 HKB oM nb0 hbl cb0 cb2 fb2 bd0 hwr
            generalize w4.setCell ⟨b, 6, none⟩ (.slice (some ⟨g2, 0, none⟩) ((M 2).length + 1) cap2) = w5 at KC ⊢
            have cb0 : w5.cell? ⟨b, 0, none⟩ = some (.int .i64 mk) := by rw [← HM.out]; exact cell_blk KC.ba.blk 0 (.int .i64 ((c : Int) + 1)) rfl
            have own5 : w5.ownsRow 0 65 3 (.slice la (k + j) lc) (k + j) (full 2 (k + j) (-mk)) := by rw [← HM.out]; exact KC.cu.own
            have HKC : Hid _ := KC
            clear KC
            go_wp2_with
             (at_builtin
              refine wpList_append_split _ rfl (.tmp 57) (.tmp 64) 60 rfl 0 65 j0 (.agg #[.int .i64 0, .int .i64 0, .int .i64 0]) 3 24 Tryz.underlying60 hj0 hy0 hy1 hy2 rfl (by decide) _ _ _ rfl (own5.alloc _) ⟨w5.heap.size, 0, none⟩ 1 1 [.int .i64 (-mk), .int .i64 0, .int .i64 0] rfl rfl (World.news_of_block (cs := #[.int .i64 (-mk), .int .i64 0, .int .i64 0]) (t := 65) (fr := (0, 0)) (heap_alloc_new _ _)) (fun x hx => by simp at hx; rcases hx with rfl | rfl <;> rfl) (by decide) (by unfold maxLen; omega) (by omega) (by simp) ?_
              intro v3 w6 hn3 hg3 hs3
              have KD : KS w w6 b S c 2 (.slice a k cp) (k + j + 1) (j + 1) 0 v3 rL1 rM1 L1 M1 := HKC.out.C ((Kept.refl _ _).alloc _) hg3 (by rw [HM.out]; exact hn3) hs3
              have HKD : Hid _ := KD
              clear KD hn3 hg3 hs3 own5 HKC cb0)
            have hm := HM.out
            subst hm
            go_roundw
            case rel => exact ⟨j + 1, rL1, rM1, L1, M1, by omega, by go_num, HKD.out⟩
            case measure => simp [intOf]; omega
        · obtain rfl : j = 4 := by omega
          go_wp2
          go_end0
          refine ⟨rfl, ⟨rL, rM, L, M, KA.ba, fun t => ?_, fun t m hm => ?_, KA.foot⟩, KA.kept⟩
          · have h1 := KA.bd t
            by_cases e : t = 2
            · subst e
              have := KA.l0
              omega
            · have := KA.lo t e
              omega
          · have := KA.mks t m hm
            omega

end Go.Proofs.YtpgcidpghmoibaaGreatDoor
