/-
  DERIVED: THE SHELF's CONTRACTS AT THIS DUMP, IN PLAIN WORDS (tools/lay-plain.mjs out of 'TryzSorts.lean', which tools/lay-shelf.mjs wrote): THE SAME DECLARATIONS UNDER THE SAME NAMES: 'import', 'namespace', 'open', 'def', 'theorem' AND NOTHING ELSE: no command of the shelf's: FOR A HAND-IN. Each laying: the table of numbers ('.._ren') and one theorem, a field a fact of the dump's own or the kernel's comparison; each contract: ONE APPLICATION.
  ROWS OF RANGES, as memory, and the library's Clone and SortFunc on them: a copy in new memory; the same ranges by their beginnings. Conditions: the row's length.
-/
import Derived.Shelf.SlSortCmp.WholeK
import Derived.Shelf.SlSortCmp.NoneTotal
import Derived.Shelf.SlicesE.Clone
import Derived.Test.YtpgcidpghmoibaaGreatDoorChecked
import Derived.Test.YtpgcidpghmoibaaGreatDoorK02
namespace Go.Proofs
open Go.Shelf
def Tryz.sortR_ren : Go.Shelf.Ren := ⟨fun | 6 => 166 | 15 => 174 | 14 => 173 | 28 => 187 | 29 => 188 | 20 => 179 | 21 => 180 | 22 => 181 | 23 => 182 | 24 => 183 | 25 => 184 | 26 => 185 | 27 => 186 | 46 => 192 | 47 => 193 | 48 => 194 | 49 => 195 | 50 => 196 | 57 => 198 | n => n, fun | 22 => 145 | 24 => 197 | 25 => 232 | 3 => 3 | 39 => 206 | 0 => 0 | 53 => 248 | 55 => 151 | 4 => 4 | 46 => 242 | 45 => 241 | 50 => 133 | 5 => 5 | 9 => 9 | 66 => 255 | 70 => 259 | 76 => 265 | 77 => 128 | n => n, fun | n => n⟩
theorem Tryz.sortR : Go.Proofs.SlLaysF0.n6 Tryz.prog Tryz.sortR_ren := {
  mixed := by kernel_rfl
  f6 := ⟨Tryz.f166.name, by decide, Tryz.func166.trans (congrArg some (by kernel_rfl))⟩
  f14 := ⟨Tryz.f173.name, by decide, Tryz.func173.trans (congrArg some (by kernel_rfl))⟩
  f15 := Tryz.func174.trans (congrArg some (by kernel_rfl))
  f20 := ⟨Tryz.f179.name, by decide, Tryz.func179.trans (congrArg some (by kernel_rfl))⟩
  f21 := ⟨Tryz.f180.name, by decide, Tryz.func180.trans (congrArg some (by kernel_rfl))⟩
  f22 := ⟨Tryz.f181.name, by decide, Tryz.func181.trans (congrArg some (by kernel_rfl))⟩
  f23 := ⟨Tryz.f182.name, by decide, Tryz.func182.trans (congrArg some (by kernel_rfl))⟩
  f24 := ⟨Tryz.f183.name, by decide, Tryz.func183.trans (congrArg some (by kernel_rfl))⟩
  f25 := ⟨Tryz.f184.name, by decide, Tryz.func184.trans (congrArg some (by kernel_rfl))⟩
  f26 := ⟨Tryz.f185.name, by decide, Tryz.func185.trans (congrArg some (by kernel_rfl))⟩
  f27 := ⟨Tryz.f186.name, by decide, Tryz.func186.trans (congrArg some (by kernel_rfl))⟩
  f28 := Tryz.func187.trans (congrArg some (by kernel_rfl))
  f29 := Tryz.func188.trans (congrArg some (by kernel_rfl))
  f46 := ⟨Tryz.f192.name, by decide, Tryz.func192.trans (congrArg some (by kernel_rfl))⟩
  f47 := Tryz.func193.trans (congrArg some (by kernel_rfl))
  f48 := Tryz.func194.trans (congrArg some (by kernel_rfl))
  f49 := ⟨Tryz.f195.name, by decide, Tryz.func195.trans (congrArg some (by kernel_rfl))⟩
  f50 := ⟨Tryz.f196.name, by decide, Tryz.func196.trans (congrArg some (by kernel_rfl))⟩
  f57 := ⟨Tryz.f198.name, by decide, Tryz.func198.trans (congrArg some (by kernel_rfl))⟩
  t0 := Tryz.underlying0
  a0 := Tryz.isAgg0
  z0 := Tryz.sizeOf0
  v0 := Tryz.zeroValue0
  t3 := Tryz.underlying3
  a3 := Tryz.isAgg3
  z3 := Tryz.sizeOf3
  v3 := Tryz.zeroValue3
  t4 := Tryz.underlying4
  a4 := Tryz.isAgg4
  z4 := Tryz.sizeOf4
  v4 := Tryz.zeroValue4
  t5 := Tryz.underlying5
  a5 := Tryz.isAgg5
  z5 := Tryz.sizeOf5
  v5 := Tryz.zeroValue5
  t9 := Tryz.underlying9
  a9 := Tryz.isAgg9
  z9 := Tryz.sizeOf9
  v9 := Tryz.zeroValue9
  t22 := Tryz.underlying145
  a22 := Tryz.isAgg145
  z22 := Tryz.sizeOf145
  v22 := Tryz.zeroValue145
  t25 := Tryz.underlying232
  a25 := Tryz.isAgg232
  z25 := Tryz.sizeOf232
  v25 := Tryz.zeroValue232
  t39 := Tryz.underlying206
  a39 := Tryz.isAgg206
  z39 := Tryz.sizeOf206
  v39 := Tryz.zeroValue206
  t45 := Tryz.underlying241
  a45 := Tryz.isAgg241
  z45 := Tryz.sizeOf241
  v45 := Tryz.zeroValue241
  t46 := Tryz.underlying242
  a46 := Tryz.isAgg242
  z46 := Tryz.sizeOf242
  v46 := Tryz.zeroValue242
  t50 := Tryz.underlying133
  a50 := Tryz.isAgg133
  z50 := Tryz.sizeOf133
  v50 := Tryz.zeroValue133
  t53 := Tryz.underlying248
  a53 := Tryz.isAgg248
  z53 := Tryz.sizeOf248
  v53 := Tryz.zeroValue248
  t55 := Tryz.underlying151
  a55 := Tryz.isAgg151
  z55 := Tryz.sizeOf151
  v55 := Tryz.zeroValue151
  t66 := Tryz.underlying255
  a66 := Tryz.isAgg255
  z66 := Tryz.sizeOf255
  v66 := Tryz.zeroValue255
  t70 := Tryz.underlying259
  a70 := Tryz.isAgg259
  z70 := Tryz.sizeOf259
  v70 := Tryz.zeroValue259
  t76 := Tryz.underlying265
  a76 := Tryz.isAgg265
  z76 := Tryz.sizeOf265
  v76 := Tryz.zeroValue265
  t77 := Tryz.underlying128
  a77 := Tryz.isAgg128
  z77 := Tryz.sizeOf128
  v77 := Tryz.zeroValue128 }
def Tryz.cloneR_ren : Go.Shelf.Ren := ⟨fun | 41 => 165 | n => n, fun | 22 => 145 | 23 => 197 | 4 => 4 | n => n, fun | n => n⟩
theorem Tryz.cloneR : Go.Proofs.SlLaysE0.n41 Tryz.prog Tryz.cloneR_ren := {
  mixed := by kernel_rfl
  f41 := ⟨Tryz.f165.name, by decide, Tryz.func165.trans (congrArg some (by kernel_rfl))⟩
  t4 := Tryz.underlying4
  a4 := Tryz.isAgg4
  z4 := Tryz.sizeOf4
  v4 := Tryz.zeroValue4
  t22 := Tryz.underlying145
  a22 := Tryz.isAgg145
  z22 := Tryz.sizeOf145
  v22 := Tryz.zeroValue145 }
end Go.Proofs

namespace Go.Proofs.YtpgcidpghmoibaaGreatDoor
namespace Pr
open Go.RowKit
open Rf (Kept)
def renc (x : Nat × Nat) : List Value := [.int .i32 (x.1 : Int), .int .i32 (x.2 : Int)]
def rc (l : List (Nat × Nat)) : List Value := (l.map renc).flatten
theorem rc_len (l : List (Nat × Nat)) : (rc l).length = l.length * 2 := by
  induction l with
  | nil => rfl
  | cons a l ih => simp [rc, renc] at ih ⊢; omega
theorem rc_snoc (l : List (Nat × Nat)) (x : Nat × Nat) : rc (l ++ [x]) = rc l ++ renc x := by simp [rc]
theorem rc_get : ∀ (l : List (Nat × Nat)) (k o : Nat) (x : Nat × Nat), l[k]? = some x → o < 2 → (rc l)[k * 2 + o]? = (renc x)[o]?
  | [], k, o, x, h, _ => by simp at h
  | y :: l, 0, o, x, h, ho => by
    simp only [List.getElem?_cons_zero, Option.some.injEq] at h
    subst h
    simp only [rc, List.map_cons, List.flatten_cons, Nat.zero_mul, Nat.zero_add]
    rw [List.getElem?_append_left (by simpa [renc] using ho)]
  | y :: l, k + 1, o, x, h, ho => by
    simp only [List.getElem?_cons_succ] at h
    have ih := rc_get l k o x h ho
    simp only [rc, List.map_cons, List.flatten_cons]
    rw [List.getElem?_append_right (by simp [renc]; omega)]
    have e : (k + 1) * 2 + o - (renc y).length = k * 2 + o := by simp [renc]; omega
    rw [e]
    exact ih
theorem flat_rc (d : Array (Nat × Nat)) : Sort.flatK renc 2 d = (rc d.toList).toArray := by
  refine Sort.ext_get! (by simp [rc_len]) fun t ht => ?_
  have ht' : t < d.size * 2 := by simpa using ht
  rw [Sort.get_flatK renc 2 d t ht']
  have hk : t / 2 < d.size := by omega
  have hx : d.toList[t / 2]? = some d[t / 2]! := by
    rw [getElem!_pos d _ hk, Array.getElem?_toList, Array.getElem?_eq_getElem hk]
  have h := rc_get d.toList (t / 2) (t % 2) _ hx (by omega)
  rw [show t / 2 * 2 + t % 2 = t by omega] at h
  have hl : t < (rc d.toList).length := by rw [rc_len]; simpa using ht'
  rw [List.getElem?_eq_getElem hl] at h
  have e1 : (rc d.toList).toArray[t]! = (rc d.toList)[t] := by
    rw [getElem!_pos _ t (by simpa using hl)]
    simp
  rw [e1, List.getElem!_eq_getElem?_getD, ← h]
  rfl
theorem own_holds {w : World} {B g cap n : Nat} {xs : List Value} (h : w.ownsRow B 197 2 (.slice (some ⟨g, 0, none⟩) n cap) n xs) : Sort.Holds id w g 0 xs.toArray := by
  obtain ⟨h1, h2⟩ := h
  rcases h2 with ⟨h2, _⟩ | ⟨g', cap', cur, h2, _, hb, _, _, hcs, htk⟩
  · cases h2
  · simp only [Value.slice.injEq, Option.some.injEq, Addr.mk.injEq, and_true, true_and] at h2
    obtain ⟨rfl, rfl⟩ := h2
    intro j hj
    have hj' : j < xs.length := by simpa using hj
    refine ⟨?_, Rf.free_blk hb _⟩
    rw [Nat.zero_add, getElem!_pos _ j (by simpa using hj')]
    apply Rf.cell_blk hb
    have h3 : (cur.toList.take (n * 2))[j]? = some xs[j] := by rw [htk]; exact List.getElem?_eq_getElem hj'
    rw [List.getElem?_take] at h3
    split at h3
    · rw [Array.getElem?_toList] at h3
      rw [h3]
      simp
    · cases h3
theorem own_put {w : World} {B g cap n m : Nat} {xs : List Value} {os : Array Obj} (h : w.ownsRow B 197 2 (.slice (some ⟨g, 0, none⟩) n cap) n xs) (ys : List Value) (hl : ys.length = xs.length) :
    (Sort.grow (Sort.putRow id (Sort.ahead w m) g 0 ys.toArray) os).ownsRow B 197 2 (.slice (some ⟨g, 0, none⟩) n cap) n ys ∧ Kept (fun k => k ≠ g) w (Sort.grow (Sort.putRow id (Sort.ahead w m) g 0 ys.toArray) os) := by
  obtain ⟨h1, h2⟩ := h
  rcases h2 with ⟨h2, _⟩ | ⟨g', cap', cur, h2, hB, hb, hnc, hcm, hcs, htk⟩
  · cases h2
  · simp only [Value.slice.injEq, Option.some.injEq, Addr.mk.injEq, and_true, true_and] at h2
    obtain ⟨rfl, rfl⟩ := h2
    have hlt := lt_of_block hb
    have hsz : (Sort.putRow id (Sort.ahead w m) g 0 ys.toArray).heap.size = w.heap.size := by simp [Sort.putRow, Sort.mapBlock, Sort.ahead]
    refine ⟨⟨hl.trans h1, .inr ⟨g, cap, Sort.putCells id 0 ys.toArray cur, rfl, hB, ?_, hnc, hcm, by simp [Sort.putCells, hcs], ?_⟩⟩, ⟨rfl, rfl, rfl, by simp [Sort.grow, hsz], ?_⟩⟩
    · show ((Sort.putRow id (Sort.ahead w m) g 0 ys.toArray).heap ++ os)[g]? = _
      rw [Array.getElem?_append_left (by rw [hsz]; exact hlt)]
      simp [Sort.putRow, Sort.mapBlock, Sort.ahead, Array.getElem?_modify, hb, Sort.onCells]
    · apply List.ext_getElem?
      intro j
      rw [List.getElem?_take]
      split
      · rename_i hj
        rw [Array.getElem?_toList]
        have hj2 : j < cur.size := by
          rw [hcs]
          exact Nat.lt_of_lt_of_le hj (Nat.mul_le_mul_right 2 hnc)
        have hj3 : j < ys.length := by omega
        simp [Sort.putCells, hj2, hj3]
      · rename_i hj
        rw [List.getElem?_eq_none (by omega)]
    · intro k hk hne
      show ((Sort.putRow id (Sort.ahead w m) g 0 ys.toArray).heap ++ os)[k]? = _
      rw [Array.getElem?_append_left (by rw [hsz]; exact hk)]
      simp [Sort.putRow, Sort.mapBlock, Sort.ahead, Array.getElem?_modify, Ne.symm hne]
set_option maxRecDepth 100000 in
set_option maxHeartbeats 1000000 in
theorem compare_any (x y : Int) (w : World) : Calls Tryz.prog 168 #[.int .i32 x, .int .i32 y] w fun e w' => e = .returned (.int .i64 (Lib.compareInt x y)) ∧ w' = w := by
  unfold Lib.compareInt
  by_cases h : x < y
  · have h' : ¬ y < x := by omega
    rw [if_pos h]
    go_enter Tryz.func168, Tryz.ntmps168
    go_wp2
    go_ret
    exact ⟨rfl, rfl⟩
  · rw [if_neg h]
    by_cases h2 : y < x
    · rw [if_pos h2]
      go_enter Tryz.func168, Tryz.ntmps168
      go_wp2
      go_ret
      exact ⟨rfl, rfl⟩
    · rw [if_neg h2]
      go_enter Tryz.func168, Tryz.ntmps168
      go_wp2
      go_ret
      exact ⟨rfl, rfl⟩
def cfR (x y : Nat × Nat) : Int := Lib.compareInt (x.1 : Int) (y.1 : Int)
set_option maxRecDepth 100000 in
set_option maxHeartbeats 1000000 in
theorem closure_any (x y : Nat × Nat) (W : World) : Calls Tryz.prog 167 #[.agg #[.int .i32 (x.1 : Int), .int .i32 (x.2 : Int)], .agg #[.int .i32 (y.1 : Int), .int .i32 (y.2 : Int)]] W fun e w' => e = .returned (.int .i64 (cfR x y)) ∧ ∃ q os', w' = Sort.grow (W.drewN q) os' := by
  have hcon := fun W' => compare_any (x.1 : Int) (y.1 : Int) W'
  unfold cfR
  generalize Lib.compareInt (x.1 : Int) (y.1 : Int) = r at hcon ⊢
  go_enter Tryz.func167, Tryz.ntmps167
  go_wp2_with (go_at_call 168; refine (hcon _).mono ?_; rintro e w' ⟨rfl, rfl⟩)
  go_ret
  exact ⟨rfl, 0, _, by rw [Sort.alloc_eq_grow, Sort.alloc_eq_grow, Sort.grow_grow]; rfl⟩
theorem ltR (x y : Nat × Nat) : ltOf cfR x y = decide (x.1 < y.1) := by
  unfold ltOf cfR Lib.compareInt
  by_cases h1 : (x.1 : Int) < (y.1 : Int)
  · have : x.1 < y.1 := by omega
    simp [this]
  · have h3 : ¬ x.1 < y.1 := by omega
    by_cases h2 : (y.1 : Int) < (x.1 : Int)
    · have : y.1 < x.1 := by omega
      simp [h3, this]
    · have : ¬ y.1 < x.1 := by omega
      simp [h3, this]
theorem swoR : Sort.SWO (ltOf cfR) where
  irrefl x := by rw [ltR]; simp
  trans x y z h1 h2 := by rw [ltR] at *; simp at *; omega
  ntrans x y z h1 h2 := by rw [ltR] at *; simp at *; omega
theorem renc_len (x : Nat × Nat) : (renc x).length = 2 := rfl
theorem renc_one (x : Nat × Nat) : ∀ v ∈ renc x, v.oneCell' = true := by
  intro v hv
  simp only [renc, List.mem_cons, List.not_mem_nil, or_false] at hv
  rcases hv with rfl | rfl <;> rfl
set_option maxHeartbeats 1000000 in
theorem sort_any (w : World) (B g cap : Nat) (rs : List (Nat × Nat)) (h : w.ownsRow B 197 2 (.slice (some ⟨g, 0, none⟩) rs.length cap) rs.length (rc rs)) (hn : rs.length ≤ 100000) :
    Calls Tryz.prog 166 #[.slice (some ⟨g, 0, none⟩) rs.length cap, .func (.func 167) #[] #[]] w fun e w' => e = .returned (.tuple #[]) ∧
      ∃ rs', rs'.Perm rs ∧ rs'.Pairwise (fun a b => a.1 ≤ b.1) ∧ w'.ownsRow B 197 2 (.slice (some ⟨g, 0, none⟩) rs.length cap) rs.length (rc rs') ∧ Kept (fun k => k ≠ g) w w' := by
  have eg : ∀ args w, (callFunc 167 args).run Tryz.prog w = .ok (.enter 167 args) w := enters_of Tryz.func167 (by kernel_rfl) rfl
  have hH : Sort.HoldsK renc 2 w g 0 rs.toArray := by
    unfold Sort.HoldsK
    rw [flat_rc]
    exact own_holds h
  have hblk : g < w.heap.size := by
    have := (h.lt g rfl).2
    exact this
  have hcon := AnyQ.slices_SortFunc Tryz.sortR 2 Tryz.isAgg197 Tryz.sizeOf197 renc renc_len renc_one cfR swoR 167 #[] g 0 cap rs.toArray w eg (fun _ _ _ _ x y => closure_any x y _) hH hblk (by simp; omega)
  change Calls Tryz.prog 166 _ _ _ at hcon
  simp only [List.size_toArray] at hcon
  refine hcon.mono ?_
  rintro e w' ⟨rfl, d', n, os, ⟨hp1, _, hp3⟩, hs, rfl⟩
  have hsz : d'.size = rs.length := by simpa using hp1
  have hperm : d'.toList.Perm rs := by
    have e1 : (d'.extract 0 rs.length).toList = d'.toList := by rw [← hsz]; simp
    have e2 : (rs.toArray.extract 0 rs.length).toList = rs := by
      have : rs.toArray.extract 0 rs.length = rs.toArray := by
        rw [show rs.length = rs.toArray.size by simp]
        exact Array.extract_size
      rw [this]
    rw [e1, e2] at hp3
    exact hp3
  have hpw : d'.toList.Pairwise (fun a b => a.1 ≤ b.1) := by
    rw [List.pairwise_iff_getElem]
    intro i j hi hj hij
    have h1 := hs i j (Nat.zero_le _) hij (by simpa [hsz] using hj)
    rw [ltR] at h1
    have hi' : i < d'.size := by simpa using hi
    have hj' : j < d'.size := by simpa using hj
    rw [getElem!_pos d' i hi', getElem!_pos d' j hj'] at h1
    simp only [decide_eq_false_iff_not] at h1
    simp only [Array.getElem_toList]
    omega
  refine ⟨rfl, d'.toList, hperm, hpw, ?_⟩
  unfold sortWorldK Sort.putRowK
  rw [flat_rc]
  exact own_put h (rc d'.toList) (by rw [rc_len, rc_len, hperm.length_eq])
theorem infoR : (Tryz.prog.info? 197).map (fun i => (i.zero, i.size, i.bytes)) = some (some (.agg #[.int .i32 0, .int .i32 0]), 2, 8) := by kernel_rfl
theorem clone_any (w : World) (rs : List (Nat × Nat)) (v : Value) (h : w.ownsRow 0 197 2 v rs.length (rc rs)) (hn : rs.length ≤ 100000) :
    Calls Tryz.prog 165 #[v] w fun e w' => ∃ v', e = .returned v' ∧ w'.ownsRow w.heap.size 197 2 v' rs.length (rc rs) ∧ Below w.heap.size w w' := by
  obtain ⟨i0, hi, hz0, hz1, hz2⟩ := info_parts infoR
  rcases h.2 with ⟨rfl, h0⟩ | ⟨g, cap, cur, rfl, _, hb, hnc, hcm, hcs, htk⟩
  · have hr : rs = [] := List.eq_nil_of_length_eq_zero h0
    subst hr
    have hcon := AnyE.slices_Clone_nil Tryz.cloneR 0 0 w
    change Calls Tryz.prog 165 _ _ _ at hcon
    refine hcon.mono ?_
    rintro e w' ⟨rfl, rfl⟩
    exact ⟨_, rfl, World.ownsRow_nil _ _ _ _, Below.refl _ _⟩
  · have hcon := AnyE.slices_Clone Tryz.cloneR i0 (.agg #[.int .i32 0, .int .i32 0]) 2 8 hi hz0 hz1 hz2 rfl (by decide) Tryz.sizeOf197 g 0 rs.length cap (rc rs) w (rc_len rs) (by unfold maxLen; omega) (by omega)
      (fun j u hj => by rw [Nat.zero_add]; have := h.cells (g := g) rfl j u hj; rw [Addr.add_lit, Nat.zero_add] at this; exact this) (fun u hu => by
        simp only [rc, List.mem_flatten, List.mem_map] at hu
        obtain ⟨l, ⟨x, _, rfl⟩, hu⟩ := hu
        exact renc_one x u hu)
    change Calls Tryz.prog 165 _ _ _ at hcon
    refine hcon.mono ?_
    rintro e w' ⟨v', rfl, h1, _, h3⟩
    exact ⟨v', rfl, h1, h3⟩
end Pr
end Go.Proofs.YtpgcidpghmoibaaGreatDoor
