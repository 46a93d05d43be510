/-
  THE REFERENCE's READER: the walk of statement: a rule or a define, as the form has it, or the first error and its place. Conditions: the source has at most 2000 bytes; there was no error ahead and no bracket is open; the table of nodes is well made and has at most four nodes a byte.
-/
import Derived.Test.YtpgcidpghmoibaaGreatDoorK05
import Derived.Test.YtpgcidpghmoibaaGreatDoorK15
import Derived.Test.YtpgcidpghmoibaaGreatDoorK20
namespace Go.Proofs.YtpgcidpghmoibaaGreatDoor
namespace Rf
open Go.RowKit
open G (PNode)
theorem infoName : (Tryz.prog.info? 191).map (fun i => (i.zero, i.size, i.bytes)) = some (some (.agg #[.string ⟨#[]⟩, .int .i64 0]), 2, 24) := by kernel_rfl
def StmPost (w : World) (b : Nat) (s : ByteArray) (S : Nat → Prop) (st : St) (w' : World) : Prop :=
  ∃ r S' st', G.Stm s st.env st.i st.T r ∧ Rd w' b s S' st' ∧ Evo w S w' S' ∧
    match r with
    | .rule n j T' => st' = { st with i := j, T := T', rules := st.rules ++ [n] }
    | .defn nm n j T' => st' = { st with i := j, T := T', env := st.env ++ [(nm, n)] }
    | .err c p => st'.err = c ∧ c ≠ 0 ∧ st'.place = p ∧ st'.i ≤ 100000
set_option maxRecDepth 100000 in
set_option maxHeartbeats 2000000 in
theorem stm_rule (w : World) (b : Nat) (s : ByteArray) (S : Nat → Prop) (st : St) (hR : Rd w b s S st) (hs : s.size ≤ 2000) (hP : Pre s st) (hev : st.env.length ≤ 100000) (hru : st.rules.length ≤ 100000) (hd : st.deep = 0) (_hk : G.skip s st.i = st.i) (hp : G.pk s st.i ≠ 36) :
    Calls Tryz.prog 82 #[.pointer (some ⟨b, 0, none⟩)] w fun e w' => e = .returned (.tuple #[]) ∧ StmPost w b s S st w' := by
  obtain ⟨i0, hi, hz0, hz1, hz2⟩ := info_parts infoInt
  obtain ⟨he0, hile, hTl, hwf, henv⟩ := id hP
  obtain ⟨hSb, _⟩ := hR.inS
  obtain ⟨c0, c1, c2, c3, c4, fr⟩ := hR.reads
  have hsee : seeV s st = G.pk s st.i := seeV_ok he0
  have HD : Hid (st.deep = 0) := hd
  clear hd
  have hpb : (G.pk s st.i == 36) = false := by simpa using hp
  have hH : ¬ G.Head s st.i := fun h => hp h.1
  have hfn := fun r (hr : G.R s st.env (.expr []) 0 st.i st.T r) => hr.fine hile hwf (by simp [G.NT.parts]) (by simp [G.NT.ranges]) henv
  go_enter Tryz.func82, Tryz.ntmps82
  go_wp2_with (first
    | (go_at_call 107; refine (see_any w b s S st hR hs (by omega)).mono ?_; rw [hsee]; rintro e w2 ⟨rfl, n2, rfl⟩; have hN := expr_all b s hs 40 0 (by omega) (by omega) (w.drewN n2) S st (hR.drewN n2) hP hev HD.out; rw [HD.out] at hN)
    | (go_at_call 111
       refine hN.mono ?_
       rintro e w3 ⟨v, r, rfl, hr, S3, st3, hR3, hE3, hd3, hev3, hru3, hm⟩
       have hE3' := ((Evo.refl w S).drewN n2).trans hE3
       cases r
       case' err c p =>
         obtain ⟨z1, z2, z3, z4, z5, z6, z7⟩ := hm
         have hW := want_both w3 b s S3 st3 59 hR3 hs (fun h => absurd (z1.symm.trans h) z3) (by omega)
         rw [wantB_err (by rw [z1]; exact z3)] at hW
         have zb : ((st3.err : Int) == 0) = false := by simp; omega
         have HG : Hid _ := G.Stm.ruleErr hH hr
         have HZ : Hid _ := And.intro z1 (And.intro z3 z2)
         clear hr z1 z2 z3
       case' ok n j T' =>
         obtain ⟨rfl, rfl⟩ := hm
         obtain ⟨f1, f2, f3, f4, f5, f6⟩ := hfn _ hr
         have hkl2 := G.skip_le s j f2
         have hW := want_both w3 b s S3 ({ st with i := j, T := T' } : St) 59 hR3 hs (fun _ => f2) (by show j ≤ _; omega)
         by_cases h59 : G.pk s (G.skip s j) = 59
         case' pos =>
           rw [wantB_yes (st := ({ st with i := j, T := T' } : St)) (c := 59) he0 h59] at hW
           have HG : Hid _ := G.Stm.rule hH hr h59
           clear hr
         case' neg =>
           rw [wantB_no (st := ({ st with i := j, T := T' } : St)) (c := 59) he0 h59] at hW
           have HG : Hid _ := G.Stm.ruleForm hH hr h59
           clear hr)
    | (go_at_call 112; refine hW.mono ?_; rintro e w4 ⟨rfl, hE4, hR4⟩; clear c0 c1 c2 c3 c4 fr; obtain ⟨c0, c1, c2, c3, c4, fr⟩ := hR4.reads; obtain ⟨vN, vM, vR, V, A4, hf4, hl4⟩ := id hR4; obtain ⟨ra, rc, hre⟩ := own_len A4.oR; subst hre; have c7 := cell_blk A4.blk 7 _ rfl)
    | (at_builtin
       refine wpList_append_lies _ rfl (.tmp 77) (.tmp 79) 33 rfl 0 3 i0 (.int .i64 0) 1 8 Tryz.underlying33 hi hz0 hz1 hz2 rfl (by decide) (.slice ra st.rules.length rc) st.rules.length (ints st.rules) rfl (A4.oR.alloc _) ⟨w4.heap.size, 0, none⟩ 1 1 [.int .i64 (n : Int)] rfl rfl (cell_one_new _ _ _) (fun y hy => by simp at hy; subst hy; rfl) (by decide) (by unfold maxLen; omega) (by omega) (by simp) (w4.heap.size + 1) (by simp) ?_
       intro g9 cap9 w9 hn9 hg9 hat9 hlt9
       have hb9 : w9.heap[b]? = _ := (hg9.block b (by have := lt_of_block A4.blk; simp; omega) (fun e => A4.nbR e.symm)).trans (blk_alloc _ A4.blk)
       have cb9 := cell_blk hb9 7 (.slice ra st.rules.length rc) rfl
       have fb9 := free_blk hb9 7
       have hfin := addR_fin n A4 hf4 hl4 ((Kept.refl _ _).alloc _) hg9 hn9 (hat9.imp id (fun h => by omega)) hlt9
       have HFI : Hid _ := hfin
       clear hfin hb9 hn9 hg9 hat9))
  all_goals first
    | (go_end0
       exact ⟨rfl, _, S3, _, HG.out, hR4, hE3'.trans hE4, HZ.out.1, HZ.out.2.1, HZ.out.2.2, by show st3.i + 1 ≤ _; omega⟩)
    | (go_end0
       exact ⟨rfl, _, S3, _, HG.out, hR4, hE3'.trans hE4, rfl, by omega, rfl, by show G.skip s j + 1 ≤ _; omega⟩)
    | (go_end0
       obtain ⟨S9, hR9, hE9⟩ := HFI.out
       exact ⟨rfl, _, S9, _, HG.out, hR9, (hE3'.trans hE4).trans hE9, rfl⟩)
set_option maxRecDepth 100000 in
set_option maxHeartbeats 2000000 in
theorem stm_rule2 (w : World) (b : Nat) (s : ByteArray) (S : Nat → Prop) (st : St) (hR : Rd w b s S st) (hs : s.size ≤ 2000) (hP : Pre s st) (hev : st.env.length ≤ 100000) (hru : st.rules.length ≤ 100000) (hd : st.deep = 0) (_hk : G.skip s st.i = st.i) (hp : G.pk s st.i = 36) (h1 : G.wend s (st.i + 1) ≠ st.i + 1) (h61 : G.pk s (G.skip s (G.wend s (st.i + 1))) ≠ 61) :
    Calls Tryz.prog 82 #[.pointer (some ⟨b, 0, none⟩)] w fun e w' => e = .returned (.tuple #[]) ∧ StmPost w b s S st w' := by
  obtain ⟨i0, hi, hz0, hz1, hz2⟩ := info_parts infoInt
  obtain ⟨he0, hile, hTl, hwf, henv⟩ := id hP
  obtain ⟨hSb, _⟩ := hR.inS
  obtain ⟨c0, c1, c2, c3, c4, fr⟩ := hR.reads
  have hsee : seeV s st = G.pk s st.i := seeV_ok he0
  have HD : Hid (st.deep = 0) := hd
  clear hd
  have hlt := G.lt_of_pk (s := s) (i := st.i) (by omega)
  rw [hp] at hsee
  have hwl := G.wend_le s (st.i + 1) (by omega)
  have hws : wordSt s st = { st with i := G.wend s (st.i + 1) } := by rw [wordSt, if_neg h1]
  have HW : Hid _ := hws
  clear hws
  have hql := G.skip_le s _ hwl
  have hqg := G.skip_ge s (G.wend s (st.i + 1))
  have hwg := G.wend_ge s (st.i + 1)
  have hsee2 : seeV s ({ st with i := G.skip s (G.wend s (st.i + 1)) } : St) = G.pk s (G.skip s (G.wend s (st.i + 1))) := seeV_ok (st := ({ st with i := G.skip s (G.wend s (st.i + 1)) } : St)) he0
  have hqb : (G.pk s (G.skip s (G.wend s (st.i + 1))) == 61) = false := by simpa using h61
  have hH : ¬ G.Head s st.i := fun h => h61 h.2.2
  have hfn := fun r (hr : G.R s st.env (.expr []) 0 st.i st.T r) => hr.fine hile hwf (by simp [G.NT.parts]) (by simp [G.NT.ranges]) henv
  go_enter Tryz.func82, Tryz.ntmps82
  go_wp2_with (first
    | (go_at_call 107; refine (see_any w6 b s S _ hR6 hs (by show G.skip s _ ≤ _; omega)).mono ?_; rw [hsee2]; rintro e w7 ⟨rfl, n7, rfl⟩; have hE7' := (hE6'.drewN n7).set hSb (.inl hSb) 1 (.int .i64 (st.i : Int)); have hN := expr_all b s hs 40 0 (by omega) (by omega) ((w6.drewN n7).setCell ⟨b, 1, none⟩ (.int .i64 (st.i : Int))) S st ((hR6.drewN n7).setI st.i) hP hev HD.out; rw [HD.out] at hN)
    | (go_at_call 107; refine (see_any w b s S st hR hs (by omega)).mono ?_; rw [hsee]; rintro e w2 ⟨rfl, n2, rfl⟩)
    | (go_at_call 108; refine (word_any (w.drewN n2) b s S st (hR.drewN n2) hs hlt he0).mono ?_; rw [HW.out]; rintro e w5 ⟨rfl, hE5, hR5⟩; have hE5' := ((Evo.refl w S).drewN n2).trans hE5; clear c0 c1 c2 c3 c4 fr; obtain ⟨c0, c1, c2, c3, c4, fr⟩ := hR5.reads)
    | (go_at_call 80; refine (skip_any w5 b s S ({ st with i := G.wend s (st.i + 1) } : St) hR5 hs hwl he0).mono ?_; rintro e w6 ⟨rfl, hR6, hE6⟩; have hE6' := hE5'.trans hE6; clear c0 c1 c2 c3 c4 fr; obtain ⟨c0, c1, c2, c3, c4, fr⟩ := hR6.reads)
    | (go_at_call 111
       refine hN.mono ?_
       rintro e w3 ⟨v, r, rfl, hr, S3, st3, hR3, hE3, hd3, hev3, hru3, hm⟩
       have hE3' := (hE7').trans hE3
       cases r
       case' err c p =>
         obtain ⟨z1, z2, z3, z4, z5, z6, z7⟩ := hm
         have hW := want_both w3 b s S3 st3 59 hR3 hs (fun h => absurd (z1.symm.trans h) z3) (by omega)
         rw [wantB_err (by rw [z1]; exact z3)] at hW
         have zb : ((st3.err : Int) == 0) = false := by simp; omega
         have HG : Hid _ := G.Stm.ruleErr hH hr
         have HZ : Hid _ := And.intro z1 (And.intro z3 z2)
         clear hr z1 z2 z3
       case' ok n j T' =>
         obtain ⟨rfl, rfl⟩ := hm
         obtain ⟨f1, f2, f3, f4, f5, f6⟩ := hfn _ hr
         have hkl2 := G.skip_le s j f2
         have hW := want_both w3 b s S3 ({ st with i := j, T := T' } : St) 59 hR3 hs (fun _ => f2) (by show j ≤ _; omega)
         by_cases h59 : G.pk s (G.skip s j) = 59
         case' pos =>
           rw [wantB_yes (st := ({ st with i := j, T := T' } : St)) (c := 59) he0 h59] at hW
           have HG : Hid _ := G.Stm.rule hH hr h59
           clear hr
         case' neg =>
           rw [wantB_no (st := ({ st with i := j, T := T' } : St)) (c := 59) he0 h59] at hW
           have HG : Hid _ := G.Stm.ruleForm hH hr h59
           clear hr)
    | (go_at_call 112; refine hW.mono ?_; rintro e w4 ⟨rfl, hE4, hR4⟩; clear c0 c1 c2 c3 c4 fr; obtain ⟨c0, c1, c2, c3, c4, fr⟩ := hR4.reads; obtain ⟨vN, vM, vR, V, A4, hf4, hl4⟩ := id hR4; obtain ⟨ra, rc, hre⟩ := own_len A4.oR; subst hre; have c7 := cell_blk A4.blk 7 _ rfl)
    | (at_builtin
       refine wpList_append_lies _ rfl (.tmp 77) (.tmp 79) 33 rfl 0 3 i0 (.int .i64 0) 1 8 Tryz.underlying33 hi hz0 hz1 hz2 rfl (by decide) (.slice ra st.rules.length rc) st.rules.length (ints st.rules) rfl (A4.oR.alloc _) ⟨w4.heap.size, 0, none⟩ 1 1 [.int .i64 (n : Int)] rfl rfl (cell_one_new _ _ _) (fun y hy => by simp at hy; subst hy; rfl) (by decide) (by unfold maxLen; omega) (by omega) (by simp) (w4.heap.size + 1) (by simp) ?_
       intro g9 cap9 w9 hn9 hg9 hat9 hlt9
       have hb9 : w9.heap[b]? = _ := (hg9.block b (by have := lt_of_block A4.blk; simp; omega) (fun e => A4.nbR e.symm)).trans (blk_alloc _ A4.blk)
       have cb9 := cell_blk hb9 7 (.slice ra st.rules.length rc) rfl
       have fb9 := free_blk hb9 7
       have hfin := addR_fin n A4 hf4 hl4 ((Kept.refl _ _).alloc _) hg9 hn9 (hat9.imp id (fun h => by omega)) hlt9
       have HFI : Hid _ := hfin
       clear hfin hb9 hn9 hg9 hat9))
  all_goals first
    | (go_end0
       exact ⟨rfl, _, S3, _, HG.out, hR4, hE3'.trans hE4, HZ.out.1, HZ.out.2.1, HZ.out.2.2, by show st3.i + 1 ≤ _; omega⟩)
    | (go_end0
       exact ⟨rfl, _, S3, _, HG.out, hR4, hE3'.trans hE4, rfl, by omega, rfl, by show G.skip s j + 1 ≤ _; omega⟩)
    | (go_end0
       obtain ⟨S9, hR9, hE9⟩ := HFI.out
       exact ⟨rfl, _, S9, _, HG.out, hR9, (hE3'.trans hE4).trans hE9, rfl⟩)
set_option maxRecDepth 100000 in
set_option maxHeartbeats 2000000 in
theorem stm_def (w : World) (b : Nat) (s : ByteArray) (S : Nat → Prop) (st : St) (hR : Rd w b s S st) (hs : s.size ≤ 2000) (hP : Pre s st) (hev : st.env.length ≤ 100000) (_hru : st.rules.length ≤ 100000) (hd : st.deep = 0) (_hk : G.skip s st.i = st.i) (hp : G.pk s st.i = 36) (h1 : G.wend s (st.i + 1) ≠ st.i + 1) (h61 : G.pk s (G.skip s (G.wend s (st.i + 1))) = 61) (hlo : G.lookup st.env (G.name s st.i) = none) :
    Calls Tryz.prog 82 #[.pointer (some ⟨b, 0, none⟩)] w fun e w' => e = .returned (.tuple #[]) ∧ StmPost w b s S st w' := by
  obtain ⟨i0, hi, hz0, hz1, hz2⟩ := info_parts infoName
  obtain ⟨he0, hile, hTl, hwf, henv⟩ := id hP
  obtain ⟨hSb, _⟩ := hR.inS
  obtain ⟨c0, c1, c2, c3, c4, fr⟩ := hR.reads
  have hsee : seeV s st = G.pk s st.i := seeV_ok he0
  have HD : Hid (st.deep = 0) := hd
  clear hd
  have hlt := G.lt_of_pk (s := s) (i := st.i) (by omega)
  rw [hp] at hsee
  have hwl := G.wend_le s (st.i + 1) (by omega)
  have hws : wordSt s st = { st with i := G.wend s (st.i + 1) } := by rw [wordSt, if_neg h1]
  have HW : Hid _ := hws
  clear hws
  have hql := G.skip_le s _ hwl
  have hqg := G.skip_ge s (G.wend s (st.i + 1))
  have hwg := G.wend_ge s (st.i + 1)
  have hsee2 : seeV s ({ st with i := G.skip s (G.wend s (st.i + 1)) } : St) = G.pk s (G.skip s (G.wend s (st.i + 1))) := seeV_ok (st := ({ st with i := G.skip s (G.wend s (st.i + 1)) } : St)) he0
  rw [h61] at hsee2
  have hqlt := G.lt_of_pk (s := s) (i := G.skip s (G.wend s (st.i + 1))) (by omega)
  have hH : G.Head s st.i := ⟨hp, h1, h61⟩
  have hfv : findV st.env (G.name s st.i) = -1 := by unfold findV; rw [hlo]
  have HLO : Hid _ := hlo
  clear hlo
  have hP1 : Pre s ({ st with i := G.skip s (G.wend s (st.i + 1)) + 1 } : St) := ⟨he0, hqlt, by show st.T.length ≤ 4 * (G.skip s (G.wend s (st.i + 1)) + 1); omega, hwf, henv⟩
  have hfn := fun r (hr : G.R s st.env (.expr []) 0 (G.skip s (G.wend s (st.i + 1)) + 1) st.T r) => hr.fine hqlt hwf (by simp [G.NT.parts]) (by simp [G.NT.ranges]) henv
  go_enter Tryz.func82, Tryz.ntmps82
  go_wp2_with (first
    | (go_at_call 107; refine (see_any w6 b s S _ hR6 hs (by show G.skip s _ ≤ _; omega)).mono ?_; rw [hsee2]; rintro e w7 ⟨rfl, n7, rfl⟩; have hE7' := (hE6'.drewN n7).set hSb (.inl hSb) 1 (.int .i64 ((G.skip s (G.wend s (st.i + 1)) : Int) + 1)); have hN := expr_all b s hs 40 0 (by omega) (by omega) ((w6.drewN n7).setCell ⟨b, 1, none⟩ (.int .i64 ((G.skip s (G.wend s (st.i + 1)) : Int) + 1))) S _ (hR6.drewN n7).inc hP1 hev HD.out)
    | (go_at_call 109; refine (find_any _ b s S _ (G.name s st.i) (hR6.drewN n7) hev).mono ?_; rw [show findV ({ st with i := G.skip s (G.wend s (st.i + 1)) } : St).env (G.name s st.i) = -1 from hfv]; rintro e w8 ⟨rfl, rfl⟩)
    | (go_at_call 107; refine (see_any w b s S st hR hs (by omega)).mono ?_; rw [hsee]; rintro e w2 ⟨rfl, n2, rfl⟩)
    | (go_at_call 108; refine (word_any (w.drewN n2) b s S st (hR.drewN n2) hs hlt he0).mono ?_; rw [HW.out]; rintro e w5 ⟨rfl, hE5, hR5⟩; have hE5' := ((Evo.refl w S).drewN n2).trans hE5; clear c0 c1 c2 c3 c4 fr; obtain ⟨c0, c1, c2, c3, c4, fr⟩ := hR5.reads)
    | (go_at_call 80; refine (skip_any w5 b s S ({ st with i := G.wend s (st.i + 1) } : St) hR5 hs hwl he0).mono ?_; rintro e w6 ⟨rfl, hR6, hE6⟩; have hE6' := hE5'.trans hE6; clear c0 c1 c2 c3 c4 fr; obtain ⟨c0, c1, c2, c3, c4, fr⟩ := hR6.reads)
    | (go_at_call 111
       refine hN.mono ?_
       rintro e w3 ⟨v, r, rfl, hr, S3, st3, hR3, hE3, hd3, hev3, hru3, hm⟩
       replace hr : G.R s st.env (.expr []) 0 (G.skip s (G.wend s (st.i + 1)) + 1) st.T r := by have h := hr; rw [show ({ st with i := G.skip s (G.wend s (st.i + 1)) + 1 } : St).deep = 0 from HD.out] at h; exact h
       have hE3' := (hE7').trans hE3
       cases r
       case' err c p =>
         obtain ⟨z1, z2, z3, z4, z5, z6, z7⟩ := hm
         have hW := want_both w3 b s S3 st3 59 hR3 hs (fun h => absurd (z1.symm.trans h) z3) (by omega)
         rw [wantB_err (by rw [z1]; exact z3)] at hW
         have zb : ((st3.err : Int) == 0) = false := by simp; omega
         have HG : Hid _ := G.Stm.defErr hH HLO.out hr
         have HZ : Hid _ := And.intro z1 (And.intro z3 z2)
         clear hr z1 z2 z3
       case' ok n j T' =>
         obtain ⟨rfl, rfl⟩ := hm
         obtain ⟨f1, f2, f3, f4, f5, f6⟩ := hfn _ hr
         have hkl2 := G.skip_le s j f2
         have hW := want_both w3 b s S3 ({ st with i := j, T := T' } : St) 59 hR3 hs (fun _ => f2) (by show j ≤ _; omega)
         by_cases h59 : G.pk s (G.skip s j) = 59
         case' pos =>
           rw [wantB_yes (st := ({ st with i := j, T := T' } : St)) (c := 59) he0 h59] at hW
           have HG : Hid _ := G.Stm.defn hH HLO.out hr h59
           clear hr
         case' neg =>
           rw [wantB_no (st := ({ st with i := j, T := T' } : St)) (c := 59) he0 h59] at hW
           have HG : Hid _ := G.Stm.defForm hH HLO.out hr h59
           clear hr)
    | (go_at_call 112; refine hW.mono ?_; rintro e w4 ⟨rfl, hE4, hR4⟩; clear c0 c1 c2 c3 c4 fr; obtain ⟨c0, c1, c2, c3, c4, fr⟩ := hR4.reads; obtain ⟨vN, vM, vR, V, A4, hf4, hl4⟩ := id hR4; obtain ⟨ra, rc, hre⟩ := own_len A4.oM; subst hre; have c7 := cell_blk A4.blk 6 _ rfl)
    | (at_builtin
       refine wpList_append_lies _ rfl (.tmp 52) (.tmp 56) 32 rfl 0 191 i0 _ 2 24 Tryz.underlying32 hi hz0 hz1 hz2 rfl (by decide) (.slice ra st.env.length rc) st.env.length (ecells st.env) rfl (A4.oM.alloc _) ⟨w4.heap.size, 0, none⟩ 1 1 [.string (G.name s st.i), .int .i64 (n : Int)] rfl rfl (World.news_of_block (cs := #[.string (G.name s st.i), .int .i64 (n : Int)]) (t := 191) (fr := (0, 0)) (heap_alloc_new _ _)) (fun y hy => by simp at hy; rcases hy with rfl | rfl <;> rfl) (by decide) (by unfold maxLen; omega) (by omega) (by simp) (w4.heap.size + 1) (by simp) ?_
       intro g9 cap9 w9 hn9 hg9 hat9 hlt9
       have hb9 : w9.heap[b]? = _ := (hg9.block b (by have := lt_of_block A4.blk; simp; omega) (fun e => A4.nbM e.symm)).trans (blk_alloc _ A4.blk)
       have cb9 := cell_blk hb9 6 (.slice ra st.env.length rc) rfl
       have fb9 := free_blk hb9 6
       have hfin := addM_fin (G.name s st.i) n A4 hf4 hl4 ((Kept.refl _ _).alloc _) hg9 hn9 (hat9.imp id (fun h => by omega)) hlt9
       have HFI : Hid _ := hfin
       clear hfin hb9 hn9 hg9 hat9))
  all_goals first
    | (refine bodyPost_ret (results_none rfl _ _ _) rfl ?_
       exact ⟨rfl, _, S3, _, HG.out, hR4, hE3'.trans hE4, HZ.out.1, HZ.out.2.1, HZ.out.2.2, by show st3.i + 1 ≤ _; omega⟩)
    | (refine bodyPost_ret (results_none rfl _ _ _) rfl ?_
       exact ⟨rfl, _, S3, _, HG.out, hR4, hE3'.trans hE4, rfl, by omega, rfl, by show G.skip s j + 1 ≤ _; omega⟩)
    | (refine bodyPost_ret (results_none rfl _ _ _) rfl ?_
       obtain ⟨S9, hR9, hE9⟩ := HFI.out
       exact ⟨rfl, _, S9, _, HG.out, hR9, (hE3'.trans hE4).trans hE9, rfl⟩)
set_option maxRecDepth 100000 in
set_option maxHeartbeats 2000000 in
theorem stm_dup (w : World) (b : Nat) (s : ByteArray) (S : Nat → Prop) (st : St) (hR : Rd w b s S st) (hs : s.size ≤ 2000) (hP : Pre s st) (hev : st.env.length ≤ 100000) (_hru : st.rules.length ≤ 100000) (hd : st.deep = 0) (_hk : G.skip s st.i = st.i) (hp : G.pk s st.i = 36) (h1 : G.wend s (st.i + 1) ≠ st.i + 1) (h61 : G.pk s (G.skip s (G.wend s (st.i + 1))) = 61) (m : Nat) (hlo : G.lookup st.env (G.name s st.i) = some m) :
    Calls Tryz.prog 82 #[.pointer (some ⟨b, 0, none⟩)] w fun e w' => e = .returned (.tuple #[]) ∧ StmPost w b s S st w' := by
  obtain ⟨i0, hi, hz0, hz1, hz2⟩ := info_parts infoInt
  obtain ⟨he0, hile, hTl, hwf, henv⟩ := id hP
  obtain ⟨hSb, _⟩ := hR.inS
  obtain ⟨c0, c1, c2, c3, c4, fr⟩ := hR.reads
  have hsee : seeV s st = G.pk s st.i := seeV_ok he0
  have HD : Hid (st.deep = 0) := hd
  clear hd
  have hlt := G.lt_of_pk (s := s) (i := st.i) (by omega)
  rw [hp] at hsee
  have hwl := G.wend_le s (st.i + 1) (by omega)
  have hws : wordSt s st = { st with i := G.wend s (st.i + 1) } := by rw [wordSt, if_neg h1]
  have HW : Hid _ := hws
  clear hws
  have hql := G.skip_le s _ hwl
  have hqg := G.skip_ge s (G.wend s (st.i + 1))
  have hwg := G.wend_ge s (st.i + 1)
  have hsee2 : seeV s ({ st with i := G.skip s (G.wend s (st.i + 1)) } : St) = G.pk s (G.skip s (G.wend s (st.i + 1))) := seeV_ok (st := ({ st with i := G.skip s (G.wend s (st.i + 1)) } : St)) he0
  rw [h61] at hsee2
  have hqlt := G.lt_of_pk (s := s) (i := G.skip s (G.wend s (st.i + 1))) (by omega)
  have hH : G.Head s st.i := ⟨hp, h1, h61⟩
  have hfv : findV st.env (G.name s st.i) = (m : Int) := by unfold findV; rw [hlo]
  have HG : Hid (G.Stm s st.env st.i st.T _) := G.Stm.dup hH hlo
  clear hlo
  have hfa : failed { st with i := G.skip s (G.wend s (st.i + 1)) } 3 st.i = { st with i := G.skip s (G.wend s (st.i + 1)), err := 3, place := st.i } := by rw [failed, if_pos he0]
  have HF : Hid _ := hfa
  clear hfa
  go_enter Tryz.func82, Tryz.ntmps82
  go_wp2_with (first
    | (go_at_call 107; refine (see_any w6 b s S _ hR6 hs (by show G.skip s _ ≤ _; omega)).mono ?_; rw [hsee2]; rintro e w7 ⟨rfl, n7, rfl⟩)
    | (go_at_call 109; refine (find_any _ b s S _ (G.name s st.i) (hR6.drewN n7) hev).mono ?_; rw [show findV ({ st with i := G.skip s (G.wend s (st.i + 1)) } : St).env (G.name s st.i) = (m : Int) from hfv]; rintro e w8 ⟨rfl, rfl⟩)
    | (go_at_call 110; refine (fail_any _ b s S _ 3 st.i (hR6.drewN n7)).mono ?_; rw [HF.out]; rintro e w9 ⟨rfl, hR9, hE9⟩; clear c0 c1 c2 c3 c4 fr; obtain ⟨c0, c1, c2, c3, c4, fr⟩ := hR9.reads; have hE9' := ((hE6'.drewN n7).trans hE9).set hSb (.inl hSb) 1 (.int .i64 ((G.skip s (G.wend s (st.i + 1)) : Int) + 1)); have hN := expr_no _ b s S _ hR9.inc (by show (3 : Nat) ≠ 0; omega) (by show st.T.length ≤ _; omega) hwf.le)
    | (go_at_call 111; refine hN.mono ?_; rintro e w10 ⟨rfl, S3, hR10, hE10⟩; have hW := want_no w10 b s S3 _ 59 hR10 hs (by show G.skip s (G.wend s (st.i + 1)) + 1 ≤ _; omega) (by show (3 : Nat) ≠ 0; omega))
    | (go_at_call 112; refine hW.mono ?_; rintro e w11 ⟨rfl, hE11, hR11⟩; clear c0 c1 c2 c3 c4 fr; obtain ⟨c0, c1, c2, c3, c4, fr⟩ := hR11.reads)
    | (go_at_call 107; refine (see_any w b s S st hR hs (by omega)).mono ?_; rw [hsee]; rintro e w2 ⟨rfl, n2, rfl⟩)
    | (go_at_call 108; refine (word_any (w.drewN n2) b s S st (hR.drewN n2) hs hlt he0).mono ?_; rw [HW.out]; rintro e w5 ⟨rfl, hE5, hR5⟩; have hE5' := ((Evo.refl w S).drewN n2).trans hE5; clear c0 c1 c2 c3 c4 fr; obtain ⟨c0, c1, c2, c3, c4, fr⟩ := hR5.reads)
    | (go_at_call 80; refine (skip_any w5 b s S ({ st with i := G.wend s (st.i + 1) } : St) hR5 hs hwl he0).mono ?_; rintro e w6 ⟨rfl, hR6, hE6⟩; have hE6' := hE5'.trans hE6; clear c0 c1 c2 c3 c4 fr; obtain ⟨c0, c1, c2, c3, c4, fr⟩ := hR6.reads))
  refine bodyPost_ret (results_none rfl _ _ _) rfl ?_
  exact ⟨rfl, _, S3, _, HG.out, hR11, (hE9'.trans hE10).trans hE11, rfl, by omega, rfl, by show G.skip s (G.wend s (st.i + 1)) + 1 + 1 ≤ _; omega⟩
set_option maxRecDepth 100000 in
set_option maxHeartbeats 2000000 in
theorem stm_bad (w : World) (b : Nat) (s : ByteArray) (S : Nat → Prop) (st : St) (hR : Rd w b s S st) (hs : s.size ≤ 2000) (hP : Pre s st) (_hev : st.env.length ≤ 100000) (_hru : st.rules.length ≤ 100000) (hd : st.deep = 0) (hk : G.skip s st.i = st.i) (hp : G.pk s st.i = 36) (h1 : G.wend s (st.i + 1) = st.i + 1) :
    Calls Tryz.prog 82 #[.pointer (some ⟨b, 0, none⟩)] w fun e w' => e = .returned (.tuple #[]) ∧ StmPost w b s S st w' := by
  obtain ⟨i0, hi, hz0, hz1, hz2⟩ := info_parts infoInt
  obtain ⟨he0, hile, hTl, hwf, henv⟩ := id hP
  obtain ⟨hSb, _⟩ := hR.inS
  obtain ⟨c0, c1, c2, c3, c4, fr⟩ := hR.reads
  have hsee : seeV s st = G.pk s st.i := seeV_ok he0
  have HD : Hid (st.deep = 0) := hd
  clear hd
  have hlt := G.lt_of_pk (s := s) (i := st.i) (by omega)
  rw [hp] at hsee
  have hwl := G.wend_le s (st.i + 1) (by omega)
  have hws : wordSt s st = { st with i := st.i + 1, err := 2, place := st.i } := by rw [wordSt, if_pos h1]
  have HW : Hid _ := hws
  clear hws
  have hH : ¬ G.Head s st.i := fun h => h.2.1 h1
  have HG : Hid (G.Stm s st.env st.i st.T _) := G.Stm.ruleErr hH (G.bare_dollar hk hp h1)
  clear hk
  go_enter Tryz.func82, Tryz.ntmps82
  go_wp2_with (first
    | (go_at_call 107; refine (see_any w6 b s S _ hR6 hs (by show st.i + 1 ≤ _; omega)).mono ?_; rw [seeV_no (by show (2 : Nat) ≠ 0; omega)]; rintro e w7 ⟨rfl, n7, rfl⟩; have hE7' := (hE6'.drewN n7).set hSb (.inl hSb) 1 (.int .i64 (st.i : Int)); have hN := expr_no ((w6.drewN n7).setCell ⟨b, 1, none⟩ (.int .i64 (st.i : Int))) b s S _ ((hR6.drewN n7).setI st.i) (by show (2 : Nat) ≠ 0; omega) (by show st.T.length ≤ _; omega) hwf.le)
    | (go_at_call 80; refine (skip_no w5 b s S _ hR5 hs (by show st.i + 1 ≤ _; omega) (by show (2 : Nat) ≠ 0; omega)).mono ?_; rintro e w6 ⟨rfl, hR6, hE6⟩; have hE6' := hE5'.trans hE6; clear c0 c1 c2 c3 c4 fr; obtain ⟨c0, c1, c2, c3, c4, fr⟩ := hR6.reads)
    | (go_at_call 111; refine hN.mono ?_; rintro e w10 ⟨rfl, S3, hR10, hE10⟩; have hW := want_no w10 b s S3 _ 59 hR10 hs (by show st.i ≤ _; omega) (by show (2 : Nat) ≠ 0; omega))
    | (go_at_call 112; refine hW.mono ?_; rintro e w11 ⟨rfl, hE11, hR11⟩; clear c0 c1 c2 c3 c4 fr; obtain ⟨c0, c1, c2, c3, c4, fr⟩ := hR11.reads)
    | (go_at_call 107; refine (see_any w b s S st hR hs (by omega)).mono ?_; rw [hsee]; rintro e w2 ⟨rfl, n2, rfl⟩)
    | (go_at_call 108; refine (word_any (w.drewN n2) b s S st (hR.drewN n2) hs hlt he0).mono ?_; rw [HW.out]; rintro e w5 ⟨rfl, hE5, hR5⟩; have hE5' := ((Evo.refl w S).drewN n2).trans hE5; clear c0 c1 c2 c3 c4 fr; obtain ⟨c0, c1, c2, c3, c4, fr⟩ := hR5.reads))
  go_end0
  exact ⟨rfl, _, S3, _, HG.out, hR11, (hE7'.trans hE10).trans hE11, rfl, by omega, rfl, by show st.i + 1 ≤ _; omega⟩
theorem stm_any (w : World) (b : Nat) (s : ByteArray) (S : Nat → Prop) (st : St) (hR : Rd w b s S st) (hs : s.size ≤ 2000) (hP : Pre s st) (hev : st.env.length ≤ 100000) (hru : st.rules.length ≤ 100000) (hd : st.deep = 0) (hk : G.skip s st.i = st.i) :
    Calls Tryz.prog 82 #[.pointer (some ⟨b, 0, none⟩)] w fun e w' => e = .returned (.tuple #[]) ∧ StmPost w b s S st w' := by
  by_cases hp : G.pk s st.i = 36
  · by_cases h1 : G.wend s (st.i + 1) = st.i + 1
    · exact stm_bad w b s S st hR hs hP hev hru hd hk hp h1
    · by_cases h61 : G.pk s (G.skip s (G.wend s (st.i + 1))) = 61
      · cases hlo : G.lookup st.env (G.name s st.i) with
        | none => exact stm_def w b s S st hR hs hP hev hru hd hk hp h1 h61 hlo
        | some m => exact stm_dup w b s S st hR hs hP hev hru hd hk hp h1 h61 m hlo
      · exact stm_rule2 w b s S st hR hs hP hev hru hd hk hp h1 h61
  · exact stm_rule w b s S st hR hs hP hev hru hd hk hp
end Rf
end Go.Proofs.YtpgcidpghmoibaaGreatDoor
