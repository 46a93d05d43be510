/-
  THE PROGRAM's SETS: the walk of ordered: the same numbers by ranges in order, in new memory. Conditions: the row's length; no range is empty.
  THE PROGRAM's SETS: the walks of One, Of, Except, compare, of the library's BinarySearchFunc at ranges, and of Has: a number is in a set just if it is a rune in one of the ranges, or, where all others are meant, is not. Conditions: the row's length; the ranges are in order.
-/
import Derived.Test.YtpgcidpghmoibaaGreatDoorK30
import Derived.Test.YtpgcidpghmoibaaGreatDoorK03
namespace Go.Proofs.YtpgcidpghmoibaaGreatDoor
namespace Pr
open Go.RowKit
open Rf (Kept)
structure SetOk (rs' rs : List (Nat × Nat)) : Prop where
  sep : G.Sep rs'
  bd : ∀ r ∈ rs', r.2 ≤ 1114111
  eqv : ∀ c, rs'.any (G.within c) = rs.any (G.within c)
  len : rs'.length ≤ rs.length
theorem meld_bd (M : Nat) (acc : List (Nat × Nat)) (x : Nat × Nat) (h : ∀ r ∈ acc, r.2 ≤ M) (hx : x.2 ≤ M) : (∀ r ∈ G.meld acc x, r.2 ≤ M) ∧ (G.meld acc x).length ≤ acc.length + 1 := by
  rcases G.snoc_cases acc with rfl | ⟨i, l, rfl⟩
  · rw [G.meld_nil]; exact ⟨by simpa using hx, by simp⟩
  · by_cases hc : x.1 ≤ l.2
    · rw [G.meld_in i l x hc]
      refine ⟨?_, by simp⟩
      intro r hr
      simp only [List.mem_append, List.mem_singleton] at hr
      rcases hr with hr | rfl
      · exact h r (by simp [hr])
      · have := h l (by simp)
        show max l.2 x.2 ≤ M
        omega
    · rw [G.meld_out i l x hc]
      refine ⟨?_, by simp⟩
      intro r hr
      rw [List.mem_append] at hr
      rcases hr with hr | hr
      · exact h r hr
      · simp only [List.mem_singleton] at hr
        subst hr
        exact hx
theorem melds_bd (M : Nat) (l : List (Nat × Nat)) (h : ∀ r ∈ l, r.2 ≤ M) : ∀ k, k ≤ l.length → (∀ r ∈ G.melds (l.take k), r.2 ≤ M) ∧ (G.melds (l.take k)).length ≤ k
  | 0, _ => by simp [G.melds]
  | k + 1, hk => by
    have ih := melds_bd M l h k (by omega)
    have hx := List.getElem?_eq_getElem (show k < l.length by omega)
    rw [List.take_add_one, hx]
    show (∀ r ∈ G.melds (l.take k ++ [l[k]]), r.2 ≤ M) ∧ (G.melds (l.take k ++ [l[k]])).length ≤ k + 1
    rw [G.melds_snoc]
    have := meld_bd M _ l[k] ih.1 (h _ (List.getElem_mem _))
    exact ⟨this.1, by omega⟩
theorem sort_all (w : World) (B : Nat) (v : Value) (rs : List (Nat × Nat)) (hB : B ≤ w.heap.size) (h : w.ownsRow B 197 2 v rs.length (rc rs)) (hn : rs.length ≤ 100000) :
    Calls Tryz.prog 166 #[v, .func (.func 167) #[] #[]] w fun e w' => e = .returned (.tuple #[]) ∧
      ∃ rs', rs'.Perm rs ∧ rs'.Pairwise (fun a b => a.1 ≤ b.1) ∧ w'.ownsRow B 197 2 v rs.length (rc rs') ∧ Below B w w' := by
  rcases h.2 with ⟨rfl, h0⟩ | ⟨g, cap, cur, rfl, hBg, _⟩
  · have hr : rs = [] := List.eq_nil_of_length_eq_zero h0
    subst hr
    have hcon := AnyF.slices_SortFunc_none Tryz.sortR none 0 (.func (.func 167) #[] #[]) w
    change Calls Tryz.prog 166 _ _ _ at hcon
    refine hcon.mono ?_
    rintro e w' ⟨rfl, rfl⟩
    exact ⟨rfl, [], List.Perm.refl _, List.Pairwise.nil, h, Below.refl _ _⟩
  · refine (sort_any w B g cap rs h hn).mono ?_
    rintro e w' ⟨rfl, rs', h1, h2, h3, h4⟩
    exact ⟨rfl, rs', h1, h2, h3, ⟨h4.os, h4.tape, h4.output, h4.size, fun k hk => h4.block k (by omega) (by omega)⟩⟩
theorem own_cell' {w : World} {b e size n g cap : Nat} {xs : List Value} {u : Value} (h : w.ownsRow b e size (.slice (some ⟨g, 0, none⟩) n cap) n xs) (j : Nat) (hu : xs[j]? = some u) : w.cell? ⟨g, j, none⟩ = some u := by
  have := h.cells (g := g) rfl j u hu
  by_cases e : j = 0
  · subst e; exact this
  · simpa [Addr.add, e] using this
theorem own_frozen {w : World} {b e size n g cap : Nat} {xs : List Value} (h : w.ownsRow b e size (.slice (some ⟨g, 0, none⟩) n cap) n xs) (o : Nat) : w.frozen? ⟨g, o, none⟩ = false := by
  rcases h.2 with ⟨h2, _⟩ | ⟨g', cap', cur, h2, _, hb, _⟩
  · cases h2
  · simp only [Value.slice.injEq, Option.some.injEq, Addr.mk.injEq, and_true, true_and] at h2
    obtain ⟨rfl, rfl⟩ := h2
    exact Rf.free_blk hb o
theorem own_set {w : World} {b e size n g cap : Nat} {xs : List Value} (h : w.ownsRow b e size (.slice (some ⟨g, 0, none⟩) n cap) n xs) (o : Nat) (u : Value) (_ho : o < n * size) : (w.setCell ⟨g, o, none⟩ u).ownsRow b e size (.slice (some ⟨g, 0, none⟩) n cap) n (xs.set o u) := by
  obtain ⟨h1, h2⟩ := h
  rcases h2 with ⟨h2, _⟩ | ⟨g', cap', cur, h2, hB, hb, hnc, hcm, hcs, htk⟩
  · cases h2
  · simp only [Value.slice.injEq, Option.some.injEq, Addr.mk.injEq, and_true, true_and] at h2
    obtain ⟨rfl, rfl⟩ := h2
    refine ⟨by simpa using h1, .inr ⟨g, cap, cur.setIfInBounds o u, rfl, hB, Rf.blk_set hb o u, hnc, hcm, by simpa using hcs, ?_⟩⟩
    rw [Array.toList_setIfInBounds, List.take_set, htk]
theorem rc_put (i : List (Nat × Nat)) (l : Nat × Nat) (m : Nat) : (rc (i ++ [l])).set (i.length * 2 + 1) (.int .i32 (m : Int)) = rc (i ++ [(l.1, m)]) := by
  rw [rc_snoc, rc_snoc, List.set_append, if_neg (by rw [rc_len]; omega), rc_len]
  rw [show i.length * 2 + 1 - i.length * 2 = 1 by omega]
  rfl
theorem own_same_at {w w' : World} {b e size n : Nat} {v : Value} {xs : List Value} (h : w.ownsRow b e size v n xs) (hk : ∀ k, v.ownBlock = some k → w'.heap[k]? = w.heap[k]?) : w'.ownsRow b e size v n xs := by
  obtain ⟨h1, h2⟩ := h
  refine ⟨h1, ?_⟩
  rcases h2 with h2 | ⟨g, cap, cur, rfl, h3, h4, h5⟩
  · exact .inl h2
  · exact .inr ⟨g, cap, cur, rfl, h3, by rw [hk g rfl]; exact h4, h5⟩
theorem infoRg : (Tryz.prog.info? 197).map (fun i => (i.zero, i.size, i.bytes)) = some (some (.agg #[.int .i32 0, .int .i32 0]), 2, 8) := by kernel_rfl
theorem own_drewN {w : World} {b e size n : Nat} {v : Value} {xs : List Value} (h : w.ownsRow b e size v n xs) (k : Nat) : (w.drewN k).ownsRow b e size v n xs := h
theorem below_drewN {B : Nat} {w w' : World} (h : Below B w w') (n : Nat) : Below B w (w'.drewN n) := ⟨h.os, h.tape, h.output, h.size, h.block⟩
theorem two_news (wr : World) (o : Obj) (nq : Nat) (x : Nat × Nat) : ∀ j u, ([.int .i32 (x.1 : Int), .int .i32 (x.2 : Int)] : List Value)[j]? = some u → (((wr.alloc o).drewN nq).alloc (.cells #[.int .i32 (x.1 : Int), .int .i32 (x.2 : Int)] 197)).cell? ((⟨wr.heap.size + 1, 0, none⟩ : Addr).add j) = some u := by
  have h := World.news_of_block (cs := #[.int .i32 (x.1 : Int), .int .i32 (x.2 : Int)]) (t := 197) (fr := (0, 0)) (heap_alloc_new ((wr.alloc o).drewN nq) (.cells #[.int .i32 (x.1 : Int), .int .i32 (x.2 : Int)] 197))
  rw [show ((wr.alloc o).drewN nq).heap.size = wr.heap.size + 1 by simp] at h
  exact h
theorem add_tail {w wr X w6 : World} {va v1 vs : Value} {ns : Nat} {xs : List Value} (hX : Below wr.heap.size wr X) (hsz : wr.heap.size ≤ X.heap.size) (hbw : Below w.heap.size w wr) (hos : wr.ownsRow w.heap.size 197 2 vs ns xs)
    (hva : ∀ j, va.ownBlock = some j → w.heap.size ≤ j ∧ j < wr.heap.size) (hap : ∀ j, va.ownBlock = some j → vs.ownBlock ≠ some j) (hg : X.grownBy w6 va.ownBlock) (hat : v1.ownBlock = va.ownBlock ∨ v1.ownBlock = some X.heap.size) :
    w6.ownsRow w.heap.size 197 2 vs ns xs ∧ (∀ j, v1.ownBlock = some j → vs.ownBlock ≠ some j) ∧ Below w.heap.size w w6 := by
  have key : ∀ k, k < wr.heap.size → va.ownBlock ≠ some k → w6.heap[k]? = wr.heap[k]? := fun k hk hn =>
    (hg.block k (by omega) (fun e => hn e.symm)).trans (hX.block k hk)
  refine ⟨?_, ?_, ?_⟩
  · obtain ⟨h1, h2⟩ := hos
    refine ⟨h1, ?_⟩
    rcases h2 with h2 | ⟨g, cap, cur, rfl, h3, h4, h5⟩
    · exact .inl h2
    · exact .inr ⟨g, cap, cur, rfl, h3, by rw [key g (lt_of_block h4) (fun e => hap g e rfl)]; exact h4, h5⟩
  · intro j hj hs
    rcases hat with e | e
    · exact hap j (e ▸ hj) hs
    · have e2 : X.heap.size = j := by rw [hj] at e; simpa using e.symm
      have := (hos.lt j hs).2
      omega
  · have hb6 : Below w.heap.size wr w6 := ⟨hg.os.trans hX.os, hg.tape.trans hX.tape, hg.output.trans hX.output, Nat.le_trans hX.size hg.size, fun k hk => key k (Nat.lt_of_lt_of_le hk hbw.size) (fun e => by have := (hva k e).1; omega)⟩
    exact hbw.trans hb6
set_option maxRecDepth 100000 in
set_option maxHeartbeats 2000000 in
theorem ordered_any (w : World) (rs : List (Nat × Nat)) (v : Value) (h : w.ownsRow 0 197 2 v rs.length (rc rs)) (hn : rs.length ≤ 100000) (hle : ∀ r ∈ rs, r.1 ≤ r.2) (hbd : ∀ r ∈ rs, r.2 ≤ 1114111) :
    Calls Tryz.prog 159 #[v] w fun e w' => ∃ v' rs', e = .returned v' ∧ w'.ownsRow w.heap.size 197 2 v' rs'.length (rc rs') ∧ Below w.heap.size w w' ∧ SetOk rs' rs := by
  obtain ⟨i0, hi, hz0, hz1, hz2⟩ := info_parts infoRg
  have hC := clone_any w rs v h hn
  go_enter Tryz.func159, Tryz.ntmps159
  go_wp2_with (first
    | (go_at_call 165; refine hC.mono ?_; rintro e w1 ⟨v1, rfl, ho1, hb1⟩; have hS := sort_all w1 w.heap.size v1 rs hb1.size ho1 hn)
    | (go_at_call 166; refine hS.mono ?_; rintro e w2 ⟨rfl, rs1, hp1, hw1, ho2, hb2⟩; have hl1 := hp1.length_eq; obtain ⟨sa, sc, hve⟩   := Rf.own_len ho2; subst hve))
  have hb02 : Below w.heap.size w w2 := hb1.trans hb2
  have HP : Hid _ := And.intro hp1 hw1
  have hle1 : ∀ r ∈ rs1, r.1 ≤ r.2 := fun r hr => hle r (hp1.mem_iff.1 hr)
  have hbd1 : ∀ r ∈ rs1, r.2 ≤ 1114111 := fun r hr => hbd r (hp1.mem_iff.1 hr)
  clear hC hS ho1 hb1 hb2 hle hbd h
  go_loopw [4, 14] (fun va vk wr => ∃ k : Nat, vk = .int .i64 k ∧ k ≤ rs.length ∧ wr.ownsRow w.heap.size 197 2 va (G.melds (rs1.take k)).length (rc (G.melds (rs1.take k))) ∧
      wr.ownsRow w.heap.size 197 2 (.slice sa rs.length sc) rs.length (rc rs1) ∧ (∀ j, va.ownBlock = some j → (Value.slice sa rs.length sc).ownBlock ≠ some j) ∧ Below w.heap.size w wr) (fun _ vk _ => rs.length - (intOf vk).toNat)
  case atStart => exact ⟨0, rfl, Nat.zero_le _, World.ownsRow_nil _ _ _ _, ho2, fun j e => by simp [Value.ownBlock] at e, hb02⟩
  case round =>
    obtain ⟨k, rfl, hk, hoa, hos, hap, hbw⟩ := hrel
    by_cases hkn : k < rs.length
    · have hx : rs1[k]? = some (rs1[k]'(by omega)) := List.getElem?_eq_getElem _
      generalize rs1[k]'(by omega) = x at hx
      obtain ⟨gs, caps, hvs, _, _⟩ := hos.form (by omega)
      simp only [Value.slice.injEq] at hvs
      obtain ⟨rfl, _, rfl⟩ := hvs
      have cs0 : wr.cell? ⟨gs, k * 2, none⟩ = some (.int .i32 (x.1 : Int)) := own_cell' hos (k * 2 + 0) ((rc_get rs1 k 0 x hx (by omega)).trans rfl)
      have cs1 : wr.cell? ⟨gs, k * 2 + 1, none⟩ = some (.int .i32 (x.2 : Int)) := own_cell' hos (k * 2 + 1) ((rc_get rs1 k 1 x hx (by omega)).trans rfl)
      have hxb := hbd1 x (List.mem_of_getElem? hx)
      have hxl := hle1 x (List.mem_of_getElem? hx)
      have het : rs1.take (k + 1) = rs1.take k ++ [x] := by rw [List.take_add_one, hx]; rfl
      have hml : G.melds (rs1.take (k + 1)) = G.meld (G.melds (rs1.take k)) x := by rw [het, G.melds_snoc]
      have hmb := melds_bd 1114111 rs1 hbd1 k (by omega)
      have HM : Hid _ := hml
      clear hml het
      generalize G.melds (rs1.take k) = acc at *
      have hacl : acc.length ≤ 100000 := by omega
      have hlb := hbw.size
      rcases G.snoc_cases acc with rfl | ⟨i, l, rfl⟩
      · obtain ⟨aa, ac, hae⟩ := Rf.own_len hoa
        subst hae
        have hd : decide ((0 : Int) > 0) = false := rfl
        go_wp2
        go_quiet (fail)
        go_wp2_with (first
          | (at_builtin
             refine wpList_append_own_at _ rfl (.tmp 47) (.tmp 49) 145 rfl w.heap.size 197 i0 (.agg #[.int .i32 0, .int .i32 0]) 2 8 Tryz.underlying145 hi hz0 hz1 hz2 rfl (by decide) (.slice aa ([] : List (Nat × Nat)).length ac) ([] : List (Nat × Nat)).length (rc ([] : List (Nat × Nat))) rfl ((own_drewN (hoa.alloc _) _).alloc _) ⟨wr.heap.size + 1, 0, none⟩ 1 1 [.int .i32 (x.1 : Int), .int .i32 (x.2 : Int)] rfl rfl (two_news wr (.cells #[.int .i32 (x.1 : Int), .int .i32 (x.2 : Int)] 197) nq x) (renc_one x) (by unfold maxLen; omega) (by omega) (by have := hbw.size; simp; omega) ?_
             intro v1 w6 hn1 hg1 _ hat1
             have HT : Hid _ := And.intro hn1 (add_tail ((below_drewN ((Below.refl _ wr).alloc (Nat.le_refl _) _) nq).alloc (by simp) _) (by simp; omega) hbw hos (fun j e => hoa.lt j e) hap hg1 hat1)
             clear hn1 hg1 hat1))
        refine ⟨⟨k + 1, by go_num, by omega, ?_, HT.out.2.1, HT.out.2.2.1, HT.out.2.2.2⟩, by simp [intOf]; omega⟩
        rw [HM.out, G.meld_nil]
        exact HT.out.1
      · obtain ⟨ga, capa, hva, hga, _⟩ := hoa.form (by simp)
        subst hva
        have hli : (i ++ [l]).length = i.length + 1 := by simp
        have hlb2 : l.2 ≤ 1114111 := hmb.1 l (by simp)
        have hlx : (i ++ [l])[i.length]? = some l := by simp
        have ca1 : wr.cell? ⟨ga, i.length * 2 + 1, none⟩ = some (.int .i32 (l.2 : Int)) := own_cell' hoa (i.length * 2 + 1) ((rc_get (i ++ [l]) i.length 1 l hlx (by omega)).trans rfl)
        have hgl : ga < wr.heap.size := (hoa.lt ga rfl).2
        rw [hli] at hoa hap hacl
        have hil : i.length ≤ 100000 := by omega
        have hd : decide ((i.length : Int) + 1 > 0) = true := by simp
        have hs1 : (i.length : Int) + 1 - 1 = (i.length : Int) := by omega
        by_cases hc : x.1 ≤ l.2
        · have hc' : (x.1 : Int) ≤ (l.2 : Int) := by omega
          go_wp2
          have ca2 : (wr.alloc (.cells #[.int .i32 (x.1 : Int), .int .i32 (x.2 : Int)] 197)).cell? ⟨ga, i.length * 2 + 1, none⟩ = some (.int .i32 (l.2 : Int)) := Lib.cell?_alloc_some _ ca1
          go_quiet (fail)
          go_wp2
          have oW := own_drewN (hoa.alloc (.cells #[.int .i32 (x.1 : Int), .int .i32 (x.2 : Int)] 197)) nq
          have oS := own_drewN (hos.alloc (.cells #[.int .i32 (x.1 : Int), .int .i32 (x.2 : Int)] 197)) nq
          have hWs : ((wr.alloc (.cells #[.int .i32 (x.1 : Int), .int .i32 (x.2 : Int)] 197)).drewN nq).heap.size = wr.heap.size + 1 := by simp
          have hWb := below_drewN ((Below.refl _ wr).alloc (Nat.le_refl _) (.cells #[.int .i32 (x.1 : Int), .int .i32 (x.2 : Int)] 197)) nq
          have b1 : ((wr.alloc (.cells #[.int .i32 (x.1 : Int), .int .i32 (x.2 : Int)] 197)).drewN nq).cell? ⟨wr.heap.size, 1, none⟩ = some (.int .i32 (x.2 : Int)) := Rf.cell_blk (heap_alloc_new wr _) 1 _ rfl
          have b2 : ((wr.alloc (.cells #[.int .i32 (x.1 : Int), .int .i32 (x.2 : Int)] 197)).drewN nq).cell? ⟨ga, i.length * 2 + 1, none⟩ = some (.int .i32 (l.2 : Int)) := ca2
          have hfz : ∀ o, ((wr.alloc (.cells #[.int .i32 (x.1 : Int), .int .i32 (x.2 : Int)] 197)).drewN nq).frozen? ⟨ga, o, none⟩ = false := fun o => own_frozen oW o
          have hidx : (i.length : Int) < ((i ++ [l]).length : Int) := by rw [hli]; omega
          generalize ((wr.alloc (.cells #[.int .i32 (x.1 : Int), .int .i32 (x.2 : Int)] 197)).drewN nq) = W at *
          clear ca1 ca2 cs0 cs1
          have HW : Hid _ := And.intro oW (And.intro oS (And.intro hWs hWb))
          clear oW oS hWs hWb
          have HR : Hid _ := And.intro hoa (And.intro hos (And.intro hap hbw))
          clear hoa hos hap hbw ho2 hb02 hle1 hbd1 hp1 hw1 hmb hx
          go_region
          all_goals
            go_wp2
            have emax : max (l.2 : Int) (x.2 : Int) = ((max l.2 x.2 : Nat) : Int) := by omega
            rw [emax]
            obtain ⟨oW, oS, hWs, hWb⟩ := HW.out
            obtain ⟨hoa, hos, hap, hbw⟩ := HR.out
            refine ⟨⟨k + 1, by go_num, by omega, ?_, ?_, ?_, ?_⟩, by simp [intOf]; omega⟩
            · rw [HM.out, G.meld_in i l x hc]
              have h1 := own_set oW (i.length * 2 + 1) (.int .i32 ((max l.2 x.2 : Nat) : Int)) (by omega)
              rw [rc_put] at h1
              have h3 : (W.setCell ⟨ga, i.length * 2 + 1, none⟩ (.int .i32 ((max l.2 x.2 : Nat) : Int))).ownsRow w.heap.size 197 2 (.slice (some ⟨ga, 0, none⟩) (i ++ [l]).length capa) (i ++ [(l.1, max l.2 x.2)]).length (rc (i ++ [(l.1, max l.2 x.2)])) := by simpa using h1
              exact h3
            · exact own_same_at oS (fun j e => (Below.heap_setCell _ _ _ _ (fun e2 => hap ga rfl (by rw [e2] at e; exact e))))
            · intro j e
              exact hap j (by simpa [Value.ownBlock] using e)
            · exact hbw.trans ⟨hWb.os, hWb.tape, hWb.output, by show _ ≤ (W.setCell _ _).heap.size; simpa [World.setCell] using hWb.size, fun j hj => (Below.heap_setCell _ _ _ _ (fun e2 => by have h1 := (hoa.lt ga rfl).1; have h2 : j = ga := e2; omega)).trans (hWb.block j (by omega))⟩
        · have hc' : ¬ (x.1 : Int) ≤ (l.2 : Int) := by omega
          have hcb : decide ((x.1 : Int) ≤ (l.2 : Int)) = false := by simpa using hc
          go_wp2
          have ca2 : (wr.alloc (.cells #[.int .i32 (x.1 : Int), .int .i32 (x.2 : Int)] 197)).cell? ⟨ga, i.length * 2 + 1, none⟩ = some (.int .i32 (l.2 : Int)) := Lib.cell?_alloc_some _ ca1
          go_quiet (fail)
          go_wp2_with (first
            | (at_builtin
               refine wpList_append_own_at _ rfl (.tmp 47) (.tmp 49) 145 rfl w.heap.size 197 i0 (.agg #[.int .i32 0, .int .i32 0]) 2 8 Tryz.underlying145 hi hz0 hz1 hz2 rfl (by decide) (.slice (some ⟨ga, 0, none⟩) (i.length + 1) capa) (i.length + 1) (rc (i ++ [l])) rfl ((own_drewN (hoa.alloc _) _).alloc _) ⟨wr.heap.size + 1, 0, none⟩ 1 1 [.int .i32 (x.1 : Int), .int .i32 (x.2 : Int)] rfl rfl (two_news wr (.cells #[.int .i32 (x.1 : Int), .int .i32 (x.2 : Int)] 197) nq x) (renc_one x) (by unfold maxLen; omega) (by omega) (by have := hbw.size; simp; omega) ?_
               intro v1 w6 hn1 hg1 _ hat1
               have HT : Hid _ := And.intro hn1 (add_tail ((below_drewN ((Below.refl _ wr).alloc (Nat.le_refl _) _) nq).alloc (by simp) _) (by simp; omega) hbw hos (fun j e => hoa.lt j e) hap hg1 hat1)
               clear hn1 hg1 hat1))
          refine ⟨⟨k + 1, by go_num, by omega, ?_, HT.out.2.1, HT.out.2.2.1, HT.out.2.2.2⟩, by simp [intOf]; omega⟩
          rw [HM.out, G.meld_out i l x hc, rc_snoc]
          have e3 : (i ++ [l] ++ [x]).length = i.length + 1 + 1 := by simp
          rw [e3]
          exact HT.out.1
    · have hkk : k = rs.length := by omega
      subst hkk
      have hme := G.melds_sep rs1 rs.length (by omega) HP.out.2 hle1
      have hmb := melds_bd 1114111 rs1 hbd1 rs.length (by omega)
      rw [List.take_of_length_le (by omega)] at hoa hme hmb
      have HX : Hid (SetOk (G.melds rs1) rs) := ⟨hme.1, hmb.1, fun c => by rw [hme.2.2 c]; exact HP.out.1.any_eq, hmb.2⟩
      have HY : Hid _ := And.intro hoa hbw
      clear hme hmb hoa hos hap hbw ho2
      go_wp2
      go_ret
      exact ⟨_, _, rfl, HY.out.1, HY.out.2, HX.out⟩
end Pr
end Go.Proofs.YtpgcidpghmoibaaGreatDoor

namespace Go.Proofs.YtpgcidpghmoibaaGreatDoor
namespace Pr
open Go.RowKit
open Rf (Kept)
def SetV (w : World) (B : Nat) (rs : List (Nat × Nat)) (o : Bool) (v : Value) : Prop :=
  ∃ vr rs', v = .agg #[vr, .bool o] ∧ w.ownsRow B 197 2 vr rs'.length (rc rs') ∧ SetOk rs' rs
theorem own_low {w : World} {b b' e size n : Nat} {v : Value} {xs : List Value} (h : w.ownsRow b e size v n xs) (hb : b' ≤ b) : w.ownsRow b' e size v n xs := by
  obtain ⟨h1, h2⟩ := h
  refine ⟨h1, ?_⟩
  rcases h2 with h2 | ⟨g, cap, cur, rfl, h3, h4, h5⟩
  · exact .inl h2
  · exact .inr ⟨g, cap, cur, rfl, by omega, h4, h5⟩
set_option maxRecDepth 100000 in
set_option maxHeartbeats 1000000 in
theorem of_any (w : World) (rs : List (Nat × Nat)) (v : Value) (h : w.ownsRow 0 197 2 v rs.length (rc rs)) (hn : rs.length ≤ 100000) (hle : ∀ r ∈ rs, r.1 ≤ r.2) (hbd : ∀ r ∈ rs, r.2 ≤ 1114111) :
    Calls Tryz.prog 161 #[v] w fun e w' => ∃ vs, e = .returned vs ∧ SetV w' w.heap.size rs false vs ∧ Below w.heap.size w w' := by
  have ho := h.alloc (.cells #[.slice none 0 0, .bool false] 147)
  have hN := ordered_any _ rs v ho hn hle hbd
  go_enter Tryz.func161, Tryz.ntmps161
  go_wp2_with (go_at_call 159; refine hN.mono ?_; rintro e w1 ⟨v1, rs1, rfl, ho1, hb1, hok⟩; have hbk : w1.heap[w.heap.size]? = some (.cells #[.slice none 0 0, .bool false] 147 (0, 0)) := (hb1.block w.heap.size (by simp)).trans (heap_alloc_new w _); obtain ⟨va, vc, hve⟩ := Rf.own_len ho1; subst hve; have f0 := Rf.free_blk hbk; have g0 : w1.cell? ⟨w.heap.size, 0, none⟩ = some (.slice none 0 0) := Rf.cell_blk hbk 0 _ rfl; have g1 : w1.cell? ⟨w.heap.size, 1, none⟩ = some (.bool false) := Rf.cell_blk hbk 1 _ rfl)
  have s0 : (w1.setCell ⟨w.heap.size, 0, none⟩ (.slice va rs1.length vc)).cell? ⟨w.heap.size, 0, none⟩ = some (.slice va rs1.length vc) := Rf.cell_blk (Rf.blk_set hbk _ _) 0 _ rfl
  have s1 : ((w1.setCell ⟨w.heap.size, 0, none⟩ (.slice va rs1.length vc)).setCell ⟨w.heap.size, 1, none⟩ (.bool false)).cell? ⟨w.heap.size, 1, none⟩ = some (.bool false) := Rf.cell_blk (Rf.blk_set (Rf.blk_set hbk _ _) _ _) 1 _ rfl
  refine bodyPost_ret (by simp [results, Tryz.results161, go_sem, s0, s1]; try rfl) rfl ?_
  have hlt : w.heap.size < w1.heap.size := by have := hb1.size; simp at this; omega
  have hbw : Below w.heap.size w w1 := ((Below.refl _ w).alloc (Nat.le_refl _) _).trans (hb1.mono (by simp))
  refine ⟨_, rfl, ⟨_, rs1, rfl, ?_, hok⟩, (hbw.setCell (Nat.le_refl _) _).setCell (Nat.le_refl _) _⟩
  have hne : ∀ k, (Value.slice va rs1.length vc).ownBlock = some k → k ≠ w.heap.size := fun k e e2 => by have := (ho1.lt k e).1; simp at this; omega
  refine own_same_at (own_low ho1 (by simp)) (fun k e => ?_)
  rw [Rf.blk_ne _ (hne k e), Rf.blk_ne _ (hne k e)]
set_option maxRecDepth 100000 in
set_option maxHeartbeats 1000000 in
theorem except_any (w : World) (rs : List (Nat × Nat)) (v : Value) (h : w.ownsRow 0 197 2 v rs.length (rc rs)) (hn : rs.length ≤ 100000) (hle : ∀ r ∈ rs, r.1 ≤ r.2) (hbd : ∀ r ∈ rs, r.2 ≤ 1114111) :
    Calls Tryz.prog 154 #[v] w fun e w' => ∃ vs, e = .returned vs ∧ SetV w' w.heap.size rs true vs ∧ Below w.heap.size w w' := by
  have ho := h.alloc (.cells #[.slice none 0 0, .bool false] 147)
  have hN := ordered_any _ rs v ho hn hle hbd
  go_enter Tryz.func154, Tryz.ntmps154
  go_wp2_with (go_at_call 159; refine hN.mono ?_; rintro e w1 ⟨v1, rs1, rfl, ho1, hb1, hok⟩; have hbk : w1.heap[w.heap.size]? = some (.cells #[.slice none 0 0, .bool false] 147 (0, 0)) := (hb1.block w.heap.size (by simp)).trans (heap_alloc_new w _); obtain ⟨va, vc, hve⟩ := Rf.own_len ho1; subst hve; have f0 := Rf.free_blk hbk; have g0 : w1.cell? ⟨w.heap.size, 0, none⟩ = some (.slice none 0 0) := Rf.cell_blk hbk 0 _ rfl; have g1 : w1.cell? ⟨w.heap.size, 1, none⟩ = some (.bool false) := Rf.cell_blk hbk 1 _ rfl)
  have s0 : (w1.setCell ⟨w.heap.size, 0, none⟩ (.slice va rs1.length vc)).cell? ⟨w.heap.size, 0, none⟩ = some (.slice va rs1.length vc) := Rf.cell_blk (Rf.blk_set hbk _ _) 0 _ rfl
  have s1 : ((w1.setCell ⟨w.heap.size, 0, none⟩ (.slice va rs1.length vc)).setCell ⟨w.heap.size, 1, none⟩ (.bool true)).cell? ⟨w.heap.size, 1, none⟩ = some (.bool true) := Rf.cell_blk (Rf.blk_set (Rf.blk_set hbk _ _) _ _) 1 _ rfl
  refine bodyPost_ret (by simp [results, Tryz.results154, go_sem, s0, s1]; try rfl) rfl ?_
  have hlt : w.heap.size < w1.heap.size := by have := hb1.size; simp at this; omega
  have hbw : Below w.heap.size w w1 := ((Below.refl _ w).alloc (Nat.le_refl _) _).trans (hb1.mono (by simp))
  refine ⟨_, rfl, ⟨_, rs1, rfl, ?_, hok⟩, (hbw.setCell (Nat.le_refl _) _).setCell (Nat.le_refl _) _⟩
  have hne : ∀ k, (Value.slice va rs1.length vc).ownBlock = some k → k ≠ w.heap.size := fun k e e2 => by have := (ho1.lt k e).1; simp at this; omega
  refine own_same_at (own_low ho1 (by simp)) (fun k e => ?_)
  rw [Rf.blk_ne _ (hne k e), Rf.blk_ne _ (hne k e)]
set_option maxRecDepth 100000 in
set_option maxHeartbeats 1000000 in
theorem one_any (w : World) (x : Int) : Calls Tryz.prog 162 #[.int .i32 x] w fun e w' => e = .returned (.agg #[.int .i32 x, .int .i32 x]) ∧ Below w.heap.size w w' := by
  go_enter Tryz.func162, Tryz.ntmps162
  go_wp2
  go_returns
  exact ⟨rfl, (Below.refl _ w).alloc (Nat.le_refl _) _⟩
set_option maxRecDepth 100000 in
set_option maxHeartbeats 1000000 in
theorem comp_any (w : World) (a c : Int) (r : Int) : Calls Tryz.prog 116 #[.agg #[.int .i32 a, .int .i32 c], .int .i32 r] w fun e w' => e = .returned (.int .i64 (if c < r then -1 else if r < a then 1 else 0)) ∧ Below w.heap.size w w' := by
  by_cases h1 : c < r
  · rw [if_pos h1]
    go_enter Tryz.func116, Tryz.ntmps116
    go_wp2
    go_ret
    exact ⟨rfl, (Below.refl _ w).alloc (Nat.le_refl _) _⟩
  · rw [if_neg h1]
    by_cases h2 : r < a
    · rw [if_pos h2]
      go_enter Tryz.func116, Tryz.ntmps116
      go_wp2
      go_ret
      exact ⟨rfl, (Below.refl _ w).alloc (Nat.le_refl _) _⟩
    · rw [if_neg h2]
      go_enter Tryz.func116, Tryz.ntmps116
      go_wp2
      go_ret
      exact ⟨rfl, (Below.refl _ w).alloc (Nat.le_refl _) _⟩
end Pr
end Go.Proofs.YtpgcidpghmoibaaGreatDoor
