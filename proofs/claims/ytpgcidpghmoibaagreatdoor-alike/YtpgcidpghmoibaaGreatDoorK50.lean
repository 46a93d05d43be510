/-
  THE LAW's helper made: an expr of a depth, in two ways that match the same. Conditions: the row of raw numbers lies in memory; the depth is at most three.
  THE PROGRAM's Cut, long texts and short ones together, as the laws without the reference ask for it. Conditions: the rules may be asked; the text is no longer than memory bears.
-/
import Derived.Test.YtpgcidpghmoibaaGreatDoorK49
import Derived.Test.YtpgcidpghmoibaaGreatDoorK28
import Derived.Test.YtpgcidpghmoibaaGreatDoorK48
namespace Go.Proofs.YtpgcidpghmoibaaGreatDoor
namespace Pr
open Go.RowKit
open Rf (Kept)
def MadeAt (b : Nat) (v : Value) (n d : Nat) : Prop := ∀ (w : World) (k : Nat), RawAt w b v n k →
  Calls Tryz.prog 26 #[pv b, .int .i64 (d : Int)] w fun e w' => (∃ p q, G.Two (2 + 2 * d) (G.lim d) p q ∧ e = .returned (bothV p q)) ∧ RawPost w b v n w'
set_option maxRecDepth 100000 in
set_option maxHeartbeats 2000000 in
theorem made0 (b : Nat) (v : Value) (n : Nat) : MadeAt b v n 0 := by
  intro w k h
  have hb : b < w.heap.size := lt_of_block h.blk
  have h0 : RawAt (w.alloc (.cells #[.string ByteArray.empty, .string ByteArray.empty] 58)) b v n k := h.kept ((Below.refl _ _).alloc (Nat.le_refl _) _)
  have hN := ratom_any _ b v n k h0
  have hbl := heap_alloc_new w (.cells #[.string ByteArray.empty, .string ByteArray.empty] 58)
  have HH : Hid (RawAt w b v n k) := h
  go_enter Tryz.func26, Tryz.ntmps26
  go_wp2_with fail
  refine hN.mono ?_
  rintro e w1 ⟨⟨p, q, h2, rfl⟩, hp⟩
  have hbl1 : w1.heap[w.heap.size]? = some (.cells #[.string ByteArray.empty, .string ByteArray.empty] 58 (0, 0)) := (hp.2.block w.heap.size (by simp) (by omega)).trans hbl
  have hk1 : Kept (fun i => i ≠ b) w w1 := ((Kept.refl _ _).alloc _).trans hp.2
  have HP : Hid (RawPost w b v n ((w1.setCell ⟨w.heap.size, 0, none⟩ (.string p)).setCell ⟨w.heap.size, 1, none⟩ (.string q))) := RawPost.step h hk1 hp.1 ((put2 hbl1 _ _).2.mono (fun i _ (hi : i < w.heap.size) => by omega))
  have d0 := Rf.cell_blk hbl1 0 _ rfl
  have d1 := Rf.cell_blk hbl1 1 _ rfl
  have f0 := Rf.free_blk hbl1 0
  have f1 := Rf.free_blk hbl1 1
  have z0 := Rf.cell_blk (put2 hbl1 (.string p) (.string q)).1 0 _ rfl
  have z1 := Rf.cell_blk (put2 hbl1 (.string p) (.string q)).1 1 _ rfl
  clear hp hN h0 h hbl hbl1 hk1
  go_wp2
  exact bodyPost_ret (v := bothV p q) (by simp [results, Tryz.results26, go_sem, z0, z1]) rfl ⟨⟨p, q, G.TwoI.ex h2, rfl⟩, HP.out⟩
def TwoB (W : World) (g : Nat) (p q : ByteArray) : Prop := W.heap[g]? = some (.cells #[.string p, .string q] 58 (0, 0))
theorem TwoB.call {W W' : World} {b : Nat} {v : Value} {n g : Nat} {p q : ByteArray} (h : TwoB W g p q) (hp : RawPost W b v n W') (hg : g ≠ b) : TwoB W' g p q := (hp.2.block g (lt_of_block h) hg).trans h
theorem TwoB.alloc {W : World} {g : Nat} {p q : ByteArray} (h : TwoB W g p q) (o : Obj) : TwoB (W.alloc o) g p q := (Below.heap_alloc _ _ _ (lt_of_block h)).trans h
set_option maxRecDepth 100000 in
set_option maxHeartbeats 8000000 in
theorem madeS (b : Nat) (v : Value) (n d : Nat) (hd : d ≤ 2) (hM : MadeAt b v n d) : MadeAt b v n (d + 1) := by
  intro w k h
  have hb : b < w.heap.size := lt_of_block h.blk
  have h0 : RawAt (w.alloc (.cells #[.string ByteArray.empty, .string ByteArray.empty] 58)) b v n k := h.kept ((Below.refl _ _).alloc (Nat.le_refl _) _)
  have hN := hM _ k h0
  have hbl : TwoB (w.alloc (.cells #[.string ByteArray.empty, .string ByteArray.empty] 58)) w.heap.size ByteArray.empty ByteArray.empty := heap_alloc_new w _
  have HH : Hid (RawAt w b v n k) := h
  have HM : Hid (MadeAt b v n d) := hM
  have e1 : ((d + 1 : Nat) : Int) = (d : Int) + 1 := rfl
  have e2 : (((d : Int) + 1) == 0) = false := by simp; omega
  have hlim : G.lim d ≤ 600 := by have := (G.lim_step hd).1; obtain rfl | rfl | rfl : d = 0 ∨ d = 1 ∨ d = 2 := (by omega) <;> decide
  rw [e1]
  clear hM
  go_enter Tryz.func26, Tryz.ntmps26
  go_wp2_with fail
  refine hN.mono ?_
  rintro e w1 ⟨⟨p, q, h2, rfl⟩, hp⟩
  have z1 := hp.2.size
  have hg0 : w.heap.size < w1.heap.size := by simp at z1; omega
  have hk1 : Kept (fun i => i ≠ b) w w1 := ((Kept.refl _ _).alloc _).trans hp.2
  have hbl1 := hbl.call hp (by omega)
  obtain ⟨k1, hr1⟩ := hp.1
  have hN2 := next_any (w1.alloc (.cells #[.string p, .string q] 58)) b v n k1 (hr1.kept ((Below.refl _ _).alloc (Nat.le_refl _) _)) 10 (by omega) (by omega)
  have hbx : TwoB (w1.alloc (.cells #[.string p, .string q] 58)) w1.heap.size p q := heap_alloc_new w1 _
  have hbl2 := hbl1.alloc (.cells #[.string p, .string q] 58)
  have hsp := h2.size
  have H2 : Hid (G.Two (2 + 2 * d) (G.lim d) p q) := h2
  clear hp hN h0 h hbl hbl1 h2 hr1
  go_wp2_with fail
  refine hN2.mono ?_
  rintro e w2 ⟨⟨j, hj, rfl⟩, hp⟩
  have z2 := hp.2.size
  have hg1 : w1.heap.size < w2.heap.size := by simp at z2; omega
  have hk2 : Kept (fun i => i ≠ b) w w2 := (hk1.alloc _).trans hp.2
  have B0 := hbl2.call hp (by omega)
  have B1 := hbx.call hp (by omega)
  obtain ⟨k2, hr2⟩ := hp.1
  clear hp hN2 hk1 hbl2 hbx z1 z2
  have HK2 : Hid (Kept (fun i => i ≠ b) w w2) := hk2
  have HR2 : Hid (RawAt w2 b v n k2) := hr2
  have HB0 : Hid (TwoB w2 w.heap.size ByteArray.empty ByteArray.empty) := B0
  have HB1 : Hid (TwoB w2 w1.heap.size p q) := B1
  have x0 := Rf.cell_blk B1 0 (.string p) rfl
  have x1 := Rf.cell_blk B1 1 (.string q) rfl
  clear hk2 hr2 B0 B1
  obtain rfl | rfl | rfl | rfl | rfl | rfl | rfl | rfl | rfl | rfl : j = 0 ∨ j = 1 ∨ j = 2 ∨ j = 3 ∨ j = 4 ∨ j = 5 ∨ j = 6 ∨ j = 7 ∨ j = 8 ∨ j = 9 := by omega
  · have b0 := HB0.out
    have d0 := Rf.cell_blk b0 0 _ rfl
    have d1 := Rf.cell_blk b0 1 _ rfl
    have f0 := Rf.free_blk b0 0
    have f1 := Rf.free_blk b0 1
    have pz := put2 b0 (.string (((⟨#[40]⟩ : ByteArray) ++ p) ++ (⟨#[41, 42]⟩ : ByteArray))) (.string (((⟨#[40, 40]⟩ : ByteArray) ++ q) ++ (⟨#[41, 43, 41, 63]⟩ : ByteArray)))
    have y0 := Rf.cell_blk pz.1 0 _ rfl
    have y1 := Rf.cell_blk pz.1 1 _ rfl
    have HP : Hid (RawPost w b v n ((w2.setCell ⟨w.heap.size, 0, none⟩ (.string (((⟨#[40]⟩ : ByteArray) ++ p) ++ (⟨#[41, 42]⟩ : ByteArray)))).setCell ⟨w.heap.size, 1, none⟩ (.string (((⟨#[40, 40]⟩ : ByteArray) ++ q) ++ (⟨#[41, 43, 41, 63]⟩ : ByteArray))))) := RawPost.step HH.out HK2.out ⟨_, HR2.out⟩ (pz.2.mono (fun i _ (hi : i < w.heap.size) => by omega))
    clear pz
    go_wp2
    exact bodyPost_ret (v := bothV (((⟨#[40]⟩ : ByteArray) ++ p) ++ (⟨#[41, 42]⟩ : ByteArray)) (((⟨#[40, 40]⟩ : ByteArray) ++ q) ++ (⟨#[41, 43, 41, 63]⟩ : ByteArray))) (by simp [results, Tryz.results26, go_sem, y0, y1]) rfl ⟨⟨_, _, G.Two.c0 hd H2.out, rfl⟩, HP.out⟩
  · have b0 := HB0.out
    have d0 := Rf.cell_blk b0 0 _ rfl
    have d1 := Rf.cell_blk b0 1 _ rfl
    have f0 := Rf.free_blk b0 0
    have f1 := Rf.free_blk b0 1
    have pz := put2 b0 (.string (((⟨#[40]⟩ : ByteArray) ++ p) ++ (⟨#[41, 43]⟩ : ByteArray))) (.string (((⟨#[40, 40]⟩ : ByteArray) ++ q) ++ (⟨#[41, 43, 41, 43]⟩ : ByteArray)))
    have y0 := Rf.cell_blk pz.1 0 _ rfl
    have y1 := Rf.cell_blk pz.1 1 _ rfl
    have HP : Hid (RawPost w b v n ((w2.setCell ⟨w.heap.size, 0, none⟩ (.string (((⟨#[40]⟩ : ByteArray) ++ p) ++ (⟨#[41, 43]⟩ : ByteArray)))).setCell ⟨w.heap.size, 1, none⟩ (.string (((⟨#[40, 40]⟩ : ByteArray) ++ q) ++ (⟨#[41, 43, 41, 43]⟩ : ByteArray))))) := RawPost.step HH.out HK2.out ⟨_, HR2.out⟩ (pz.2.mono (fun i _ (hi : i < w.heap.size) => by omega))
    clear pz
    go_wp2
    exact bodyPost_ret (v := bothV (((⟨#[40]⟩ : ByteArray) ++ p) ++ (⟨#[41, 43]⟩ : ByteArray)) (((⟨#[40, 40]⟩ : ByteArray) ++ q) ++ (⟨#[41, 43, 41, 43]⟩ : ByteArray))) (by simp [results, Tryz.results26, go_sem, y0, y1]) rfl ⟨⟨_, _, G.Two.c1 hd H2.out, rfl⟩, HP.out⟩
  · have b0 := HB0.out
    have d0 := Rf.cell_blk b0 0 _ rfl
    have d1 := Rf.cell_blk b0 1 _ rfl
    have f0 := Rf.free_blk b0 0
    have f1 := Rf.free_blk b0 1
    have pz := put2 b0 (.string (((⟨#[40, 40]⟩ : ByteArray) ++ p) ++ (⟨#[41, 42, 41, 42]⟩ : ByteArray))) (.string (((⟨#[40]⟩ : ByteArray) ++ q) ++ (⟨#[41, 42]⟩ : ByteArray)))
    have y0 := Rf.cell_blk pz.1 0 _ rfl
    have y1 := Rf.cell_blk pz.1 1 _ rfl
    have HP : Hid (RawPost w b v n ((w2.setCell ⟨w.heap.size, 0, none⟩ (.string (((⟨#[40, 40]⟩ : ByteArray) ++ p) ++ (⟨#[41, 42, 41, 42]⟩ : ByteArray)))).setCell ⟨w.heap.size, 1, none⟩ (.string (((⟨#[40]⟩ : ByteArray) ++ q) ++ (⟨#[41, 42]⟩ : ByteArray))))) := RawPost.step HH.out HK2.out ⟨_, HR2.out⟩ (pz.2.mono (fun i _ (hi : i < w.heap.size) => by omega))
    clear pz
    go_wp2
    exact bodyPost_ret (v := bothV (((⟨#[40, 40]⟩ : ByteArray) ++ p) ++ (⟨#[41, 42, 41, 42]⟩ : ByteArray)) (((⟨#[40]⟩ : ByteArray) ++ q) ++ (⟨#[41, 42]⟩ : ByteArray))) (by simp [results, Tryz.results26, go_sem, y0, y1]) rfl ⟨⟨_, _, G.Two.c2 hd H2.out, rfl⟩, HP.out⟩
  · have b0 := HB0.out
    have d0 := Rf.cell_blk b0 0 _ rfl
    have d1 := Rf.cell_blk b0 1 _ rfl
    have f0 := Rf.free_blk b0 0
    have f1 := Rf.free_blk b0 1
    have pz := put2 b0 (.string (((⟨#[40, 40]⟩ : ByteArray) ++ p) ++ (⟨#[41, 63, 32, 124, 32, 39, 113, 39, 41]⟩ : ByteArray))) (.string (((⟨#[40, 39, 113, 39, 32, 124, 32, 40]⟩ : ByteArray) ++ q) ++ (⟨#[41, 63, 41]⟩ : ByteArray)))
    have y0 := Rf.cell_blk pz.1 0 _ rfl
    have y1 := Rf.cell_blk pz.1 1 _ rfl
    have HP : Hid (RawPost w b v n ((w2.setCell ⟨w.heap.size, 0, none⟩ (.string (((⟨#[40, 40]⟩ : ByteArray) ++ p) ++ (⟨#[41, 63, 32, 124, 32, 39, 113, 39, 41]⟩ : ByteArray)))).setCell ⟨w.heap.size, 1, none⟩ (.string (((⟨#[40, 39, 113, 39, 32, 124, 32, 40]⟩ : ByteArray) ++ q) ++ (⟨#[41, 63, 41]⟩ : ByteArray))))) := RawPost.step HH.out HK2.out ⟨_, HR2.out⟩ (pz.2.mono (fun i _ (hi : i < w.heap.size) => by omega))
    clear pz
    go_wp2
    exact bodyPost_ret (v := bothV (((⟨#[40, 40]⟩ : ByteArray) ++ p) ++ (⟨#[41, 63, 32, 124, 32, 39, 113, 39, 41]⟩ : ByteArray)) (((⟨#[40, 39, 113, 39, 32, 124, 32, 40]⟩ : ByteArray) ++ q) ++ (⟨#[41, 63, 41]⟩ : ByteArray))) (by simp [results, Tryz.results26, go_sem, y0, y1]) rfl ⟨⟨_, _, G.Two.c3 hd H2.out, rfl⟩, HP.out⟩
  · have hN3 := HM.out w2 k2 HR2.out
    go_wp2_with fail
    refine hN3.mono ?_
    rintro e w3 ⟨⟨x, y, g, rfl⟩, hp⟩
    have z3 := hp.2.size
    have hk3 : Kept (fun i => i ≠ b) w w3 := HK2.out.trans hp.2
    have b0 := (HB0.out.call hp (by omega)).alloc (.cells #[.string x, .string y] 58)
    have b1 := (HB1.out.call hp (by omega)).alloc (.cells #[.string x, .string y] 58)
    have b3 : TwoB (w3.alloc (.cells #[.string x, .string y] 58)) w3.heap.size x y := heap_alloc_new w3 _
    obtain ⟨k3, hr3⟩ := hp.1
    have hr3' : RawAt (w3.alloc (.cells #[.string x, .string y] 58)) b v n k3 := hr3.kept ((Below.refl _ _).alloc (Nat.le_refl _) _)
    have hk3' := hk3.alloc (.cells #[.string x, .string y] 58)
    have hsx := g.size
    have HG : Hid _ := g
    have HR3 : Hid _ := hr3'
    have HK3 : Hid _ := hk3'
    have u0 := Rf.cell_blk b1 0 (.string p) rfl
    have u1 := Rf.cell_blk b1 1 (.string q) rfl
    have v0 := Rf.cell_blk b3 0 (.string x) rfl
    have v1 := Rf.cell_blk b3 1 (.string y) rfl
    clear hN3 hp g hr3 hr3' hk3 hk3' x0 x1
    have d0 := Rf.cell_blk b0 0 _ rfl
    have d1 := Rf.cell_blk b0 1 _ rfl
    have f0 := Rf.free_blk b0 0
    have f1 := Rf.free_blk b0 1
    have pz := put2 b0 (.string (((((⟨#[40]⟩ : ByteArray) ++ p) ++ (⟨#[32, 124, 32]⟩ : ByteArray)) ++ x) ++ (⟨#[41]⟩ : ByteArray))) (.string (((((⟨#[40]⟩ : ByteArray) ++ y) ++ (⟨#[32, 124, 32]⟩ : ByteArray)) ++ q) ++ (⟨#[41]⟩ : ByteArray)))
    have y0 := Rf.cell_blk pz.1 0 _ rfl
    have y1 := Rf.cell_blk pz.1 1 _ rfl
    have HP : Hid (RawPost w b v n (((w3.alloc (.cells #[.string x, .string y] 58)).setCell ⟨w.heap.size, 0, none⟩ (.string (((((⟨#[40]⟩ : ByteArray) ++ p) ++ (⟨#[32, 124, 32]⟩ : ByteArray)) ++ x) ++ (⟨#[41]⟩ : ByteArray)))).setCell ⟨w.heap.size, 1, none⟩ (.string (((((⟨#[40]⟩ : ByteArray) ++ y) ++ (⟨#[32, 124, 32]⟩ : ByteArray)) ++ q) ++ (⟨#[41]⟩ : ByteArray))))) := RawPost.step HH.out HK3.out ⟨_, HR3.out⟩ (pz.2.mono (fun i _ (hi : i < w.heap.size) => by omega))
    clear pz
    go_wp2
    exact bodyPost_ret (v := bothV (((((⟨#[40]⟩ : ByteArray) ++ p) ++ (⟨#[32, 124, 32]⟩ : ByteArray)) ++ x) ++ (⟨#[41]⟩ : ByteArray)) (((((⟨#[40]⟩ : ByteArray) ++ y) ++ (⟨#[32, 124, 32]⟩ : ByteArray)) ++ q) ++ (⟨#[41]⟩ : ByteArray))) (by simp [results, Tryz.results26, go_sem, y0, y1]) rfl ⟨⟨_, _, G.Two.c4 hd H2.out HG.out, rfl⟩, HP.out⟩
  · have hN3 := HM.out w2 k2 HR2.out
    go_wp2_with fail
    refine hN3.mono ?_
    rintro e w3 ⟨⟨x, y, g, rfl⟩, hp⟩
    have z3 := hp.2.size
    have hk3 : Kept (fun i => i ≠ b) w w3 := HK2.out.trans hp.2
    have b0 := (HB0.out.call hp (by omega)).alloc (.cells #[.string x, .string y] 58)
    have b1 := (HB1.out.call hp (by omega)).alloc (.cells #[.string x, .string y] 58)
    have b3 : TwoB (w3.alloc (.cells #[.string x, .string y] 58)) w3.heap.size x y := heap_alloc_new w3 _
    obtain ⟨k3, hr3⟩ := hp.1
    have hr3' : RawAt (w3.alloc (.cells #[.string x, .string y] 58)) b v n k3 := hr3.kept ((Below.refl _ _).alloc (Nat.le_refl _) _)
    have hk3' := hk3.alloc (.cells #[.string x, .string y] 58)
    have hsx := g.size
    have HG : Hid _ := g
    have HR3 : Hid _ := hr3'
    have HK3 : Hid _ := hk3'
    have u0 := Rf.cell_blk b1 0 (.string p) rfl
    have u1 := Rf.cell_blk b1 1 (.string q) rfl
    have v0 := Rf.cell_blk b3 0 (.string x) rfl
    have v1 := Rf.cell_blk b3 1 (.string y) rfl
    clear hN3 hp g hr3 hr3' hk3 hk3' x0 x1
    have d0 := Rf.cell_blk b0 0 _ rfl
    have d1 := Rf.cell_blk b0 1 _ rfl
    have f0 := Rf.free_blk b0 0
    have f1 := Rf.free_blk b0 1
    have pz := put2 b0 (.string (((((⟨#[40]⟩ : ByteArray) ++ p) ++ (⟨#[41, 32, 40]⟩ : ByteArray)) ++ x) ++ (⟨#[41]⟩ : ByteArray))) (.string (((((⟨#[40, 40]⟩ : ByteArray) ++ q) ++ (⟨#[41, 40]⟩ : ByteArray)) ++ y) ++ (⟨#[41, 41]⟩ : ByteArray)))
    have y0 := Rf.cell_blk pz.1 0 _ rfl
    have y1 := Rf.cell_blk pz.1 1 _ rfl
    have HP : Hid (RawPost w b v n (((w3.alloc (.cells #[.string x, .string y] 58)).setCell ⟨w.heap.size, 0, none⟩ (.string (((((⟨#[40]⟩ : ByteArray) ++ p) ++ (⟨#[41, 32, 40]⟩ : ByteArray)) ++ x) ++ (⟨#[41]⟩ : ByteArray)))).setCell ⟨w.heap.size, 1, none⟩ (.string (((((⟨#[40, 40]⟩ : ByteArray) ++ q) ++ (⟨#[41, 40]⟩ : ByteArray)) ++ y) ++ (⟨#[41, 41]⟩ : ByteArray))))) := RawPost.step HH.out HK3.out ⟨_, HR3.out⟩ (pz.2.mono (fun i _ (hi : i < w.heap.size) => by omega))
    clear pz
    go_wp2
    exact bodyPost_ret (v := bothV (((((⟨#[40]⟩ : ByteArray) ++ p) ++ (⟨#[41, 32, 40]⟩ : ByteArray)) ++ x) ++ (⟨#[41]⟩ : ByteArray)) (((((⟨#[40, 40]⟩ : ByteArray) ++ q) ++ (⟨#[41, 40]⟩ : ByteArray)) ++ y) ++ (⟨#[41, 41]⟩ : ByteArray))) (by simp [results, Tryz.results26, go_sem, y0, y1]) rfl ⟨⟨_, _, G.Two.c5 hd H2.out HG.out, rfl⟩, HP.out⟩
  · have hN3 := ratom_any w2 b v n k2 HR2.out
    go_wp2_with fail
    refine hN3.mono ?_
    rintro e w3 ⟨⟨x, y, g, rfl⟩, hp⟩
    have z3 := hp.2.size
    have hk3 : Kept (fun i => i ≠ b) w w3 := HK2.out.trans hp.2
    have b0 := (HB0.out.call hp (by omega)).alloc (.cells #[.string x, .string y] 58)
    have b1 := (HB1.out.call hp (by omega)).alloc (.cells #[.string x, .string y] 58)
    have b3 : TwoB (w3.alloc (.cells #[.string x, .string y] 58)) w3.heap.size x y := heap_alloc_new w3 _
    obtain ⟨k3, hr3⟩ := hp.1
    have hr3' : RawAt (w3.alloc (.cells #[.string x, .string y] 58)) b v n k3 := hr3.kept ((Below.refl _ _).alloc (Nat.le_refl _) _)
    have hk3' := hk3.alloc (.cells #[.string x, .string y] 58)
    have hsx := g.size
    have HG : Hid _ := g
    have HR3 : Hid _ := hr3'
    have HK3 : Hid _ := hk3'
    have hN4 := ratom_any _ b v n k3 hr3'
    clear hN3 hp g hr3 hr3' hk3 hk3' x0 x1
    go_wp2_with fail
    refine hN4.mono ?_
    rintro e w4 ⟨⟨x', y', g', rfl⟩, hp⟩
    have z4 := hp.2.size
    have z4' : w3.heap.size < w4.heap.size := by simp at z4; omega
    have hk4 : Kept (fun i => i ≠ b) w w4 := HK3.out.trans hp.2
    have c0 := (b0.call hp (by omega)).alloc (.cells #[.string x', .string y'] 58)
    have c1 := (b1.call hp (by omega)).alloc (.cells #[.string x', .string y'] 58)
    have c3 := (b3.call hp (by omega)).alloc (.cells #[.string x', .string y'] 58)
    have c4 : TwoB (w4.alloc (.cells #[.string x', .string y'] 58)) w4.heap.size x' y' := heap_alloc_new w4 _
    obtain ⟨k4, hr4⟩ := hp.1
    have hr4' : RawAt (w4.alloc (.cells #[.string x', .string y'] 58)) b v n k4 := hr4.kept ((Below.refl _ _).alloc (Nat.le_refl _) _)
    have hk4' := hk4.alloc (.cells #[.string x', .string y'] 58)
    have hsx' := g'.size
    have HG' : Hid _ := g'
    have HR4 : Hid _ := hr4'
    have HK4 : Hid _ := hk4'
    have u0 := Rf.cell_blk c1 0 (.string p) rfl
    have u1 := Rf.cell_blk c1 1 (.string q) rfl
    have v0 := Rf.cell_blk c3 0 (.string x) rfl
    have v1 := Rf.cell_blk c3 1 (.string y) rfl
    have t0 := Rf.cell_blk c4 0 (.string x') rfl
    have t1 := Rf.cell_blk c4 1 (.string y') rfl
    clear hN4 hp g' hr4 hr4' hk4 hk4' b0 b1 b3
    have d0 := Rf.cell_blk c0 0 _ rfl
    have d1 := Rf.cell_blk c0 1 _ rfl
    have f0 := Rf.free_blk c0 0
    have f1 := Rf.free_blk c0 1
    have pz := put2 c0 (.string (((((((⟨#[40]⟩ : ByteArray) ++ p) ++ (⟨#[41, 32, 40]⟩ : ByteArray)) ++ x) ++ (⟨#[32, 124, 32]⟩ : ByteArray)) ++ x') ++ (⟨#[41]⟩ : ByteArray))) (.string ((((((((⟨#[40]⟩ : ByteArray) ++ q) ++ (⟨#[41, 32]⟩ : ByteArray)) ++ y) ++ (⟨#[32, 124, 32, 40]⟩ : ByteArray)) ++ q) ++ (⟨#[41]⟩ : ByteArray)) ++ y'))
    have y0 := Rf.cell_blk pz.1 0 _ rfl
    have y1 := Rf.cell_blk pz.1 1 _ rfl
    have HP : Hid (RawPost w b v n (((w4.alloc (.cells #[.string x', .string y'] 58)).setCell ⟨w.heap.size, 0, none⟩ (.string (((((((⟨#[40]⟩ : ByteArray) ++ p) ++ (⟨#[41, 32, 40]⟩ : ByteArray)) ++ x) ++ (⟨#[32, 124, 32]⟩ : ByteArray)) ++ x') ++ (⟨#[41]⟩ : ByteArray)))).setCell ⟨w.heap.size, 1, none⟩ (.string ((((((((⟨#[40]⟩ : ByteArray) ++ q) ++ (⟨#[41, 32]⟩ : ByteArray)) ++ y) ++ (⟨#[32, 124, 32, 40]⟩ : ByteArray)) ++ q) ++ (⟨#[41]⟩ : ByteArray)) ++ y')))) := RawPost.step HH.out HK4.out ⟨_, HR4.out⟩ (pz.2.mono (fun i _ (hi : i < w.heap.size) => by omega))
    clear pz
    go_wp2
    exact bodyPost_ret (v := bothV (((((((⟨#[40]⟩ : ByteArray) ++ p) ++ (⟨#[41, 32, 40]⟩ : ByteArray)) ++ x) ++ (⟨#[32, 124, 32]⟩ : ByteArray)) ++ x') ++ (⟨#[41]⟩ : ByteArray)) ((((((((⟨#[40]⟩ : ByteArray) ++ q) ++ (⟨#[41, 32]⟩ : ByteArray)) ++ y) ++ (⟨#[32, 124, 32, 40]⟩ : ByteArray)) ++ q) ++ (⟨#[41]⟩ : ByteArray)) ++ y')) (by simp [results, Tryz.results26, go_sem, y0, y1]) rfl ⟨⟨_, _, G.Two.c6 hd H2.out HG.out HG'.out, rfl⟩, HP.out⟩
  · have hN3 := ratom_any w2 b v n k2 HR2.out
    go_wp2_with fail
    refine hN3.mono ?_
    rintro e w3 ⟨⟨x, y, g, rfl⟩, hp⟩
    have z3 := hp.2.size
    have hk3 : Kept (fun i => i ≠ b) w w3 := HK2.out.trans hp.2
    have b0 := (HB0.out.call hp (by omega)).alloc (.cells #[.string x, .string y] 58)
    have b1 := (HB1.out.call hp (by omega)).alloc (.cells #[.string x, .string y] 58)
    have b3 : TwoB (w3.alloc (.cells #[.string x, .string y] 58)) w3.heap.size x y := heap_alloc_new w3 _
    obtain ⟨k3, hr3⟩ := hp.1
    have hr3' : RawAt (w3.alloc (.cells #[.string x, .string y] 58)) b v n k3 := hr3.kept ((Below.refl _ _).alloc (Nat.le_refl _) _)
    have hk3' := hk3.alloc (.cells #[.string x, .string y] 58)
    have hsx := g.size
    have HG : Hid _ := g
    have HR3 : Hid _ := hr3'
    have HK3 : Hid _ := hk3'
    have u0 := Rf.cell_blk b1 0 (.string p) rfl
    have u1 := Rf.cell_blk b1 1 (.string q) rfl
    have v0 := Rf.cell_blk b3 0 (.string x) rfl
    have v1 := Rf.cell_blk b3 1 (.string y) rfl
    clear hN3 hp g hr3 hr3' hk3 hk3' x0 x1
    have d0 := Rf.cell_blk b0 0 _ rfl
    have d1 := Rf.cell_blk b0 1 _ rfl
    have f0 := Rf.free_blk b0 0
    have f1 := Rf.free_blk b0 1
    have pz := put2 b0 (.string (((((⟨#[40, 40]⟩ : ByteArray) ++ p) ++ (⟨#[41, 32, 124, 32]⟩ : ByteArray)) ++ x) ++ (⟨#[41, 42]⟩ : ByteArray))) (.string (((((⟨#[40, 40]⟩ : ByteArray) ++ q) ++ (⟨#[41, 42, 32, 40]⟩ : ByteArray)) ++ y) ++ (⟨#[41, 42, 41, 42]⟩ : ByteArray)))
    have y0 := Rf.cell_blk pz.1 0 _ rfl
    have y1 := Rf.cell_blk pz.1 1 _ rfl
    have HP : Hid (RawPost w b v n (((w3.alloc (.cells #[.string x, .string y] 58)).setCell ⟨w.heap.size, 0, none⟩ (.string (((((⟨#[40, 40]⟩ : ByteArray) ++ p) ++ (⟨#[41, 32, 124, 32]⟩ : ByteArray)) ++ x) ++ (⟨#[41, 42]⟩ : ByteArray)))).setCell ⟨w.heap.size, 1, none⟩ (.string (((((⟨#[40, 40]⟩ : ByteArray) ++ q) ++ (⟨#[41, 42, 32, 40]⟩ : ByteArray)) ++ y) ++ (⟨#[41, 42, 41, 42]⟩ : ByteArray))))) := RawPost.step HH.out HK3.out ⟨_, HR3.out⟩ (pz.2.mono (fun i _ (hi : i < w.heap.size) => by omega))
    clear pz
    go_wp2
    exact bodyPost_ret (v := bothV (((((⟨#[40, 40]⟩ : ByteArray) ++ p) ++ (⟨#[41, 32, 124, 32]⟩ : ByteArray)) ++ x) ++ (⟨#[41, 42]⟩ : ByteArray)) (((((⟨#[40, 40]⟩ : ByteArray) ++ q) ++ (⟨#[41, 42, 32, 40]⟩ : ByteArray)) ++ y) ++ (⟨#[41, 42, 41, 42]⟩ : ByteArray))) (by simp [results, Tryz.results26, go_sem, y0, y1]) rfl ⟨⟨_, _, G.Two.c7 hd H2.out HG.out, rfl⟩, HP.out⟩
  · have b0 := HB0.out
    have d0 := Rf.cell_blk b0 0 _ rfl
    have d1 := Rf.cell_blk b0 1 _ rfl
    have f0 := Rf.free_blk b0 0
    have f1 := Rf.free_blk b0 1
    have pz := put2 b0 (.string p) (.string q)
    have y0 := Rf.cell_blk pz.1 0 _ rfl
    have y1 := Rf.cell_blk pz.1 1 _ rfl
    have HP : Hid (RawPost w b v n ((w2.setCell ⟨w.heap.size, 0, none⟩ (.string p)).setCell ⟨w.heap.size, 1, none⟩ (.string q))) := RawPost.step HH.out HK2.out ⟨_, HR2.out⟩ (pz.2.mono (fun i _ (hi : i < w.heap.size) => by omega))
    clear pz
    go_wp2
    exact bodyPost_ret (v := bothV p q) (by simp [results, Tryz.results26, go_sem, y0, y1]) rfl ⟨⟨_, _, G.Two.c8 hd H2.out, rfl⟩, HP.out⟩
  · have b0 := HB0.out
    have d0 := Rf.cell_blk b0 0 _ rfl
    have d1 := Rf.cell_blk b0 1 _ rfl
    have f0 := Rf.free_blk b0 0
    have f1 := Rf.free_blk b0 1
    have pz := put2 b0 (.string p) (.string q)
    have y0 := Rf.cell_blk pz.1 0 _ rfl
    have y1 := Rf.cell_blk pz.1 1 _ rfl
    have HP : Hid (RawPost w b v n ((w2.setCell ⟨w.heap.size, 0, none⟩ (.string p)).setCell ⟨w.heap.size, 1, none⟩ (.string q))) := RawPost.step HH.out HK2.out ⟨_, HR2.out⟩ (pz.2.mono (fun i _ (hi : i < w.heap.size) => by omega))
    clear pz
    go_wp2
    exact bodyPost_ret (v := bothV p q) (by simp [results, Tryz.results26, go_sem, y0, y1]) rfl ⟨⟨_, _, G.Two.c8 hd H2.out, rfl⟩, HP.out⟩
theorem made3 (b : Nat) (v : Value) (n : Nat) : MadeAt b v n 3 := madeS b v n 2 (by omega) (madeS b v n 1 (by omega) (madeS b v n 0 (by omega) (made0 b v n)))
end Pr
end Go.Proofs.YtpgcidpghmoibaaGreatDoor

namespace Go.Proofs.YtpgcidpghmoibaaGreatDoor
namespace Pr
open Go.RowKit
open G (PNode)
def CutIs (T : List PNode) (Q : List Nat) (t : ByteArray) (l : List G.Seg) (g : Int) : Prop :=
  (t.size ≤ 1000 ∧ g = 0 ∧ G.CutR T Q t 0 l) ∨ (1000 < t.size ∧ g = 1 ∧ l = [])
theorem CutIs.one {T : List PNode} {Q : List Nat} {t : ByteArray} {l l' : List G.Seg} {g g' : Int} (h : CutIs T Q t l g) (h' : CutIs T Q t l' g') : l = l' ∧ g = g' := by
  rcases h with ⟨h1, h2, h3⟩ | ⟨h1, h2, h3⟩ <;> rcases h' with ⟨k1, k2, k3⟩ | ⟨k1, k2, k3⟩
  · exact ⟨h3.one k3, by rw [h2, k2]⟩
  · omega
  · omega
  · exact ⟨by rw [h3, k3], by rw [h2, k2]⟩
theorem CutIs.few {T : List PNode} {Q : List Nat} {t : ByteArray} {l : List G.Seg} {g : Int} (h : CutIs T Q t l g) : l.length ≤ 1000 := by
  rcases h with ⟨h1, _, h3⟩ | ⟨_, _, rfl⟩
  · have := Rf.cut_few h3
    have h2 := U.units_length t
    rw [G.us_len] at this
    omega
  · simp
def CutAll (w : World) (T : List PNode) (Q : List Nat) (t : ByteArray) (e : Ending) (w' : World) : Prop :=
  (∃ v l g, e = .returned (.tuple #[v, .int .i64 g]) ∧ w'.ownsRow 0 65 3 v l.length (Rf.segs l) ∧ CutIs T Q t l g) ∧ Below w.heap.size w w'
theorem cut_all (w : World) (b : Nat) (T : List PNode) (Q : List Nat) (h : RuP w b T Q) (t : ByteArray) (ht : t.size ≤ maxLen) : Calls Tryz.prog 27 #[pv b, .string t] w fun e w' => CutAll w T Q t e w' := by
  by_cases hs : 1000 < t.size
  · refine (pcut_long w b t hs ht).mono ?_
    rintro e w' ⟨rfl, rfl⟩
    exact ⟨⟨_, [], 1, rfl, World.ownsRow_nil _ _ _ _, .inr ⟨hs, rfl, rfl⟩⟩, Below.refl _ _⟩
  · obtain ⟨m, I, v, V, P, f, hp⟩ := h.pin
    refine (pcut_short w b m I v V T Q P f hp t (by omega)).mono ?_
    rintro e w' ⟨⟨vo, l, rfl, hc, ho⟩, hb⟩
    exact ⟨⟨vo, l, 0, rfl, Rf.own_zero ho, .inl ⟨by omega, rfl, hc⟩⟩, hb⟩
end Pr
end Go.Proofs.YtpgcidpghmoibaaGreatDoor
