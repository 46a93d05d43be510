/-
  THE LAW's raw numbers: the helpers pick, next and atom. Conditions: the row of raw numbers lies in memory, apart from the reader's block.
-/
import Derived.Test.YtpgcidpghmoibaaGreatDoorK28
import Derived.Test.YtpgcidpghmoibaaGreatDoorK48
import Derived.Deep.QuietTactic
import Derived.BigQuiet
namespace Go.Proofs.YtpgcidpghmoibaaGreatDoor
namespace Pr
open Go.RowKit
open Rf (Kept)
def pickV (c : Int) (m : Nat) : Nat := ((if c < 0 then -(c + 1) else c).tmod (m : Int)).toNat
theorem pickV_lt (c : Int) (m : Nat) (hm : 0 < m) : pickV c m < m := by
  unfold pickV
  have key : ∀ x : Int, 0 ≤ x → (x.tmod (m : Int)).toNat < m := fun x hx => by
    have := Int.tmod_lt_of_pos x (show (0 : Int) < (m : Int) by omega)
    have h0 := Int.tmod_nonneg (m : Int) hx
    omega
  split
  · exact key _ (by omega)
  · exact key _ (by omega)
set_option maxRecDepth 100000 in
theorem pickn_any (c : Int) (m : Nat) (hm : 0 < m) (hm2 : m ≤ 9223372036854775807) (w : World) (h1 : -9223372036854775808 ≤ c) (h2 : c ≤ 9223372036854775807) : Calls Tryz.prog 30 #[.int .i64 c, .int .i64 (m : Int)] w fun e w' => e = .returned (.int .i64 ((pickV c m : Nat) : Int)) ∧ w' = w := by
  have hm0 : ((m : Int) == 0) = false := by simp; omega
  have hmz : ¬ (m : Int) = 0 := by omega
  have key : ∀ x : Int, 0 ≤ x → x ≤ 9223372036854775807 → ∃ k : Nat, x.tmod (m : Int) = (k : Int) ∧ k = (x.tmod (m : Int)).toNat ∧ (k : Int) ≤ 9223372036854775807 := fun x hx hx2 => ⟨(x.tmod (m : Int)).toNat, by
    have h0 := Int.tmod_nonneg (m : Int) hx
    omega, rfl, by
    have := Int.tmod_lt_of_pos x (show (0 : Int) < (m : Int) by omega)
    have h0 := Int.tmod_nonneg (m : Int) hx
    omega⟩
  by_cases hc : c < 0
  · have hw3 : IntKind.i64.wrap (c + 1) = c + 1 := by rw [IntKind.wrap_i64]; omega
    have hw4 : IntKind.i64.wrap (-(c + 1)) = -(c + 1) := by rw [IntKind.wrap_i64]; omega
    obtain ⟨k, he, hk, hk2⟩ := key (-(c + 1)) (by omega) (by omega)
    have hv : pickV c m = k := by unfold pickV; rw [if_pos hc, ← hk]
    rw [hv]
    clear hv hk
    go_enter Tryz.func30, Tryz.ntmps30
    go_wp2
    go_ret
    exact ⟨by first | rfl | (rw [← he]; first | rfl | (congr 2; omega)), rfl⟩
  · obtain ⟨k, he, hk, hk2⟩ := key c (by omega) (by omega)
    have hv : pickV c m = k := by unfold pickV; rw [if_neg hc, ← hk]
    rw [hv]
    clear hv hk
    go_enter Tryz.func30, Tryz.ntmps30
    go_wp2
    go_ret
    exact ⟨by first | rfl | (rw [← he]; first | rfl | (congr 2; omega)), rfl⟩
def IvAt (w : World) (b : Nat) (v : Value) (n : Nat) : Prop :=
  ∃ la cap, v = .slice la n cap ∧ n ≤ maxLen ∧ ∀ i, i < n → ∃ a x, la = some a ∧ a.block < w.heap.size ∧ a.block ≠ b ∧ w.cell? (a.add i) = some (.int .i64 x) ∧ -9223372036854775808 ≤ x ∧ x ≤ 9223372036854775807
theorem blk_addr (a : Addr) (k : Nat) : (a.add k).block = a.block := by
  unfold Addr.add
  split <;> rfl
theorem cell_sm {w w' : World} {p : Addr} (h : w'.heap[p.block]? = w.heap[p.block]?) : w'.cell? p = w.cell? p := by
  unfold World.cell?
  rw [h]
theorem IvAt.kept {w w' : World} {b : Nat} {v : Value} {n : Nat} (h : IvAt w b v n) (hk : Kept (fun i => i ≠ b) w w') : IvAt w' b v n := by
  obtain ⟨la, cap, hv, hn, hc⟩ := h
  refine ⟨la, cap, hv, hn, fun i hi => ?_⟩
  obtain ⟨a, x, h1, h2, h3, h4, h5⟩ := hc i hi
  refine ⟨a, x, h1, Nat.lt_of_lt_of_le h2 hk.size, h3, ?_, h5⟩
  exact (cell_sm (p := a.add i) (by rw [blk_addr]; exact hk.block a.block h2 h3)).trans h4
structure RawAt (w : World) (b : Nat) (v : Value) (n k : Nat) : Prop where
  blk : w.heap[b]? = some (.cells #[v, .int .i64 (k : Int)] 55 (0, 0))
  row : IvAt w b v n
  le : k ≤ n
theorem RawAt.set {w : World} {b : Nat} {v : Value} {n k : Nat} (h : RawAt w b v n k) (k' : Nat) (hk : k' ≤ n) : RawAt (w.setCell ⟨b, 1, none⟩ (.int .i64 (k' : Int))) b v n k' ∧ Kept (fun i => i ≠ b) w (w.setCell ⟨b, 1, none⟩ (.int .i64 (k' : Int))) := by
  have hkp : Kept (fun i => i ≠ b) w (w.setCell ⟨b, 1, none⟩ (.int .i64 (k' : Int))) := (Kept.refl _ _).setCell (by simp) _
  refine ⟨⟨?_, h.row.kept hkp, hk⟩, hkp⟩
  rw [Rf.blk_set h.blk]
  rfl
theorem RawAt.kept {w w' : World} {b : Nat} {v : Value} {n k : Nat} (h : RawAt w b v n k) (hb : Below w.heap.size w w') : RawAt w' b v n k :=
  ⟨(hb.block b (lt_of_block h.blk)).trans h.blk, h.row.kept ⟨hb.os, hb.tape, hb.output, hb.size, fun i hi _ => hb.block i hi⟩, h.le⟩
def RawPost (w : World) (b : Nat) (v : Value) (n : Nat) (w' : World) : Prop := (∃ k', RawAt w' b v n k') ∧ Kept (fun i => i ≠ b) w w'
set_option maxRecDepth 100000 in
set_option maxHeartbeats 1000000 in
theorem next_any (w : World) (b : Nat) (v : Value) (n k : Nat) (h : RawAt w b v n k) (m : Nat) (hm : 0 < m) (hm2 : m ≤ 100) :
    Calls Tryz.prog 25 #[pv b, .int .i64 (m : Int)] w fun e w' => (∃ j : Nat, j < m ∧ e = .returned (.int .i64 (j : Int))) ∧ RawPost w b v n w' := by
  obtain ⟨la, cap, rfl, hn, hcell⟩ := h.row
  have hle := h.le
  have hnx : n ≤ 9223372036854775807 := by unfold maxLen at hn; omega
  have c0 := Rf.cell_blk h.blk 0 (.slice la n cap) rfl
  have c1 := Rf.cell_blk h.blk 1 (.int .i64 (k : Int)) rfl
  by_cases hlt : k < n
  · have hk0 : (0 : Int) ≤ (k : Int) := by omega
    have hki : (k : Int) < (n : Int) := by omega
    have hnge : ¬ (n : Int) ≤ (k : Int) := by omega
    have HC : Hid _ := hcell
    have HR : Hid (RawAt w b (.slice la n cap) n k) := h
    clear hcell h
    go_enter Tryz.func25, Tryz.ntmps25
    go_wp2
    go_quiet (fail)
    have h1 : RawAt (w.drewN nq) b (.slice la n cap) n k := HR.out.kept ⟨rfl, rfl, rfl, Nat.le_refl _, fun _ _ => rfl⟩
    have hk1 : Kept (fun i => i ≠ b) w (w.drewN nq) := ⟨rfl, rfl, rfl, Nat.le_refl _, fun _ _ _ => rfl⟩
    obtain ⟨a, x, rfl, ha, hab, hx, hx1, hx2⟩ := HC.out k hlt
    have hset := h1.set (k + 1) (by omega)
    have hx' : ((w.drewN nq).setCell ⟨b, 1, none⟩ (.int .i64 ((k + 1 : Nat) : Int))).cell? (a.add k) = some (.int .i64 x) := (cell_sm (p := a.add k) (by rw [blk_addr]; exact hset.2.block a.block ha hab)).trans hx
    clear c0 c1 HC HR hx
    generalize w.drewN nq = w1 at *
    have c0 := Rf.cell_blk h1.blk 0 (.slice (some a) n cap) rfl
    have c1 := Rf.cell_blk h1.blk 1 (.int .i64 (k : Int)) rfl
    have hfz := Rf.free_blk h1.blk 1
    have c0' := Rf.cell_blk hset.1.blk 0 (.slice (some a) n cap) rfl
    have c1' := Rf.cell_blk hset.1.blk 1 (.int .i64 ((k + 1 : Nat) : Int)) rfl
    rw [show ((k + 1 : Nat) : Int) = (k : Int) + 1 from rfl] at hx' c0' c1' hset
    have HS : Hid _ := And.intro hset hk1
    have hP := fun W => pickn_any x m hm (by omega) W hx1 hx2
    have hj := pickV_lt x m hm
    generalize pickV x m = j at hP hj
    have HJ : Hid (j < m) := hj
    clear hset hj h1 hk1
    go_wp2
    go_quiet ((go_at_call 30; refine Calls.quiet_of_same (hP _)))
    go_wp2
    go_ret
    exact ⟨⟨j, HJ.out, rfl⟩, ⟨k + 1, HS.out.1.1.kept ⟨rfl, rfl, rfl, Nat.le_refl _, fun _ _ => rfl⟩⟩, (HS.out.2.trans HS.out.1.2).trans ⟨rfl, rfl, rfl, Nat.le_refl _, fun _ _ _ => rfl⟩⟩
  · obtain rfl : k = n := by omega
    go_enter Tryz.func25, Tryz.ntmps25
    go_wp2
    go_quiet (fail)
    go_wp2
    go_ret
    exact ⟨⟨0, hm, rfl⟩, ⟨k, h.kept ⟨rfl, rfl, rfl, Nat.le_refl _, fun _ _ => rfl⟩⟩, ⟨rfl, rfl, rfl, Nat.le_refl _, fun _ _ _ => rfl⟩⟩
theorem RawPost.step {w w1 W : World} {b : Nat} {v : Value} {n k : Nat} (h : RawAt w b v n k) (hk : Kept (fun i => i ≠ b) w w1) (hr : ∃ k', RawAt w1 b v n k') (hW : Kept (fun i => i < w.heap.size) w1 W) : RawPost w b v n W := by
  have hb := lt_of_block h.blk
  have hK : Kept (fun i => i ≠ b) w W := ⟨hW.os.trans hk.os, hW.tape.trans hk.tape, hW.output.trans hk.output, Nat.le_trans hk.size hW.size, fun i hi hne => (hW.block i (Nat.lt_of_lt_of_le hi hk.size) hi).trans (hk.block i hi hne)⟩
  obtain ⟨k', hr⟩ := hr
  exact ⟨⟨k', (hW.block b (lt_of_block hr.blk) hb).trans hr.blk, h.row.kept hK, hr.le⟩, hK⟩
theorem put2 {w : World} {g : Nat} {x y : Value} {t : TypeId} (h : w.heap[g]? = some (.cells #[x, y] t (0, 0))) (p q : Value) :
    ((w.setCell ⟨g, 0, none⟩ p).setCell ⟨g, 1, none⟩ q).heap[g]? = some (.cells #[p, q] t (0, 0)) ∧ Kept (fun i => i ≠ g) w ((w.setCell ⟨g, 0, none⟩ p).setCell ⟨g, 1, none⟩ q) := by
  refine ⟨?_, ((Kept.refl _ _).setCell (by simp) _).setCell (by simp) _⟩
  have h1 : (w.setCell ⟨g, 0, none⟩ p).heap[g]? = some (.cells #[p, y] t (0, 0)) := by rw [Rf.blk_set h]; rfl
  rw [Rf.blk_set h1]
  rfl
abbrev bothV (a b : ByteArray) : Value := .agg #[.string a, .string b]
set_option maxRecDepth 100000 in
set_option maxHeartbeats 2000000 in
theorem ratom_any (w : World) (b : Nat) (v : Value) (n k : Nat) (h : RawAt w b v n k) :
    Calls Tryz.prog 60 #[pv b] w fun e w' => (∃ p q, G.Two1 p q ∧ e = .returned (bothV p q)) ∧ RawPost w b v n w' := by
  have hb : b < w.heap.size := lt_of_block h.blk
  have h0 : RawAt (w.alloc (.cells #[.string ByteArray.empty, .string ByteArray.empty] 58)) b v n k := h.kept ((Below.refl _ _).alloc (Nat.le_refl _) _)
  have hN := next_any _ b v n k h0 7 (by omega) (by omega)
  have hbl := heap_alloc_new w (.cells #[.string ByteArray.empty, .string ByteArray.empty] 58)
  have HH : Hid (RawAt w b v n k) := h
  go_enter Tryz.func60, Tryz.ntmps60
  go_wp2_with fail
  refine hN.mono ?_
  rintro e w1 ⟨⟨j, hj, rfl⟩, hp⟩
  have hbl1 : w1.heap[w.heap.size]? = some (.cells #[.string ByteArray.empty, .string ByteArray.empty] 58 (0, 0)) := (hp.2.block w.heap.size (by simp) (by omega)).trans hbl
  have hk1 : Kept (fun i => i ≠ b) w w1 := ((Kept.refl _ _).alloc _).trans hp.2
  have HP : Hid (∀ p q, RawPost w b v n ((w1.setCell ⟨w.heap.size, 0, none⟩ p).setCell ⟨w.heap.size, 1, none⟩ q)) := fun p q => RawPost.step h hk1 hp.1 ((put2 hbl1 p q).2.mono (fun i _ (hi : i < w.heap.size) => by omega))
  have HC : Hid (∀ p q, ((w1.setCell ⟨w.heap.size, 0, none⟩ p).setCell ⟨w.heap.size, 1, none⟩ q).cell? ⟨w.heap.size, 0, none⟩ = some p ∧ ((w1.setCell ⟨w.heap.size, 0, none⟩ p).setCell ⟨w.heap.size, 1, none⟩ q).cell? ⟨w.heap.size, 1, none⟩ = some q) := fun p q => ⟨Rf.cell_blk (put2 hbl1 p q).1 0 _ rfl, Rf.cell_blk (put2 hbl1 p q).1 1 _ rfl⟩
  have d0 := Rf.cell_blk hbl1 0 _ rfl
  have d1 := Rf.cell_blk hbl1 1 _ rfl
  have f0 := Rf.free_blk hbl1 0
  have f1 := Rf.free_blk hbl1 1
  clear hp hN h0 h hbl hbl1 hk1
  obtain rfl | rfl | rfl | rfl | rfl | rfl | rfl : j = 0 ∨ j = 1 ∨ j = 2 ∨ j = 3 ∨ j = 4 ∨ j = 5 ∨ j = 6 := by omega
  · go_wp2
    have z := HC.out (.string ⟨#[39, 97, 39]⟩) (.string ⟨#[91, 97, 45, 97, 93]⟩)
    have z0 := z.1
    have z1 := z.2
    exact bodyPost_ret (v := bothV ⟨#[39, 97, 39]⟩ ⟨#[91, 97, 45, 97, 93]⟩) (by simp [results, Tryz.results60, go_sem, z0, z1]) rfl ⟨⟨⟨#[39, 97, 39]⟩, ⟨#[91, 97, 45, 97, 93]⟩, G.two0, rfl⟩, HP.out _ _⟩
  · go_wp2
    have z := HC.out (.string ⟨#[91, 97, 98, 93]⟩) (.string ⟨#[40, 39, 98, 39, 32, 124, 32, 91, 97, 93, 41]⟩)
    have z0 := z.1
    have z1 := z.2
    exact bodyPost_ret (v := bothV ⟨#[91, 97, 98, 93]⟩ ⟨#[40, 39, 98, 39, 32, 124, 32, 91, 97, 93, 41]⟩) (by simp [results, Tryz.results60, go_sem, z0, z1]) rfl ⟨⟨⟨#[91, 97, 98, 93]⟩, ⟨#[40, 39, 98, 39, 32, 124, 32, 91, 97, 93, 41]⟩, G.two1, rfl⟩, HP.out _ _⟩
  · go_wp2
    have z := HC.out (.string ⟨#[39, 98, 39]⟩) (.string ⟨#[91, 92, 117, 48, 48, 54, 50, 93]⟩)
    have z0 := z.1
    have z1 := z.2
    exact bodyPost_ret (v := bothV ⟨#[39, 98, 39]⟩ ⟨#[91, 92, 117, 48, 48, 54, 50, 93]⟩) (by simp [results, Tryz.results60, go_sem, z0, z1]) rfl ⟨⟨⟨#[39, 98, 39]⟩, ⟨#[91, 92, 117, 48, 48, 54, 50, 93]⟩, G.two2, rfl⟩, HP.out _ _⟩
  · go_wp2
    have z := HC.out (.string ⟨#[91, 94, 97, 93]⟩) (.string ⟨#[91, 94, 97, 45, 97, 93]⟩)
    have z0 := z.1
    have z1 := z.2
    exact bodyPost_ret (v := bothV ⟨#[91, 94, 97, 93]⟩ ⟨#[91, 94, 97, 45, 97, 93]⟩) (by simp [results, Tryz.results60, go_sem, z0, z1]) rfl ⟨⟨⟨#[91, 94, 97, 93]⟩, ⟨#[91, 94, 97, 45, 97, 93]⟩, G.two3, rfl⟩, HP.out _ _⟩
  · go_wp2
    have z := HC.out (.string ⟨#[46]⟩) (.string ⟨#[91, 94, 93]⟩)
    have z0 := z.1
    have z1 := z.2
    exact bodyPost_ret (v := bothV ⟨#[46]⟩ ⟨#[91, 94, 93]⟩) (by simp [results, Tryz.results60, go_sem, z0, z1]) rfl ⟨⟨⟨#[46]⟩, ⟨#[91, 94, 93]⟩, G.two4, rfl⟩, HP.out _ _⟩
  · go_wp2
    have z := HC.out (.string ⟨#[39, 97, 98, 39]⟩) (.string ⟨#[39, 97, 39, 32, 39, 98, 39]⟩)
    have z0 := z.1
    have z1 := z.2
    exact bodyPost_ret (v := bothV ⟨#[39, 97, 98, 39]⟩ ⟨#[39, 97, 39, 32, 39, 98, 39]⟩) (by simp [results, Tryz.results60, go_sem, z0, z1]) rfl ⟨⟨⟨#[39, 97, 98, 39]⟩, ⟨#[39, 97, 39, 32, 39, 98, 39]⟩, G.two5, rfl⟩, HP.out _ _⟩
  · go_wp2
    have z := HC.out (.string ⟨#[39, 99, 39]⟩) (.string ⟨#[40, 32, 40, 32, 39, 99, 39, 32, 41, 32, 41]⟩)
    have z0 := z.1
    have z1 := z.2
    exact bodyPost_ret (v := bothV ⟨#[39, 99, 39]⟩ ⟨#[40, 32, 40, 32, 39, 99, 39, 32, 41, 32, 41]⟩) (by simp [results, Tryz.results60, go_sem, z0, z1]) rfl ⟨⟨⟨#[39, 99, 39]⟩, ⟨#[40, 32, 40, 32, 39, 99, 39, 32, 41, 32, 41]⟩, G.two6, rfl⟩, HP.out _ _⟩
end Pr
end Go.Proofs.YtpgcidpghmoibaaGreatDoor
