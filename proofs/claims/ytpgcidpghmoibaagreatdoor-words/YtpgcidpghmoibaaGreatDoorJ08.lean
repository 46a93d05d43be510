/-
  THE PROGRAM's READER: the walk of char: the rune that comes and where it ends, or an error at its place. Conditions: the source has at most 2000 bytes, the place lies in it; the library's tables lie in memory as the text lays them.
  THE FORM OF RULES, without the program: no node that is read has more parts or more ranges than the source has bytes, and one. Nothing of the program is run here. Conditions stand at each fact.
  THE FORM OF RULES, without the program: a source means one thing. Nothing of the program is run here. No condition.
-/
import Derived.Lib.RuneCountTail
import Derived.Test.YtpgcidpghmoibaaGreatDoorJ07
import Derived.Test.YtpgcidpghmoibaaGreatDoorJ05
namespace Go.Proofs.YtpgcidpghmoibaaGreatDoor
namespace Pr
open Go.RowKit
open Rf (Kept)

theorem dec_cases (s : ByteArray) (i : Nat) (h : 128 ≤ U.at' s i) : (Utf8.decode s i = (65533, 1) ∧ G.well s i = false) ∨
    (2 ≤ (Utf8.decode s i).2 ∧ 128 ≤ (Utf8.decode s i).1 ∧ (Utf8.decode s i).1 ≤ 1114111 ∧ ((Utf8.decode s i).1 < 55296 ∨ 57344 ≤ (Utf8.decode s i).1) ∧ G.well s i = true) := by
  have hl := U.at_lt s i
  have hw : G.well s i = if U.at' s i < 192 ∨ 248 ≤ U.at' s i then false else decide ((Utf8.decode s i).2 ≠ 1) := by
    rw [G.well, if_neg (by omega)]
  rw [hw]
  by_cases hb : U.at' s i < 192 ∨ 248 ≤ U.at' s i
  · left
    exact ⟨U.decBad s i h hb, by rw [if_pos hb]⟩
  · rw [if_neg hb]
    by_cases h2 : U.at' s i < 224
    · rw [U.dec2 s i (by omega) h2]
      split
      · rename_i hc
        have := (U.tl_iff s (i + 1)).1 hc.1
        right
        simp only
        exact ⟨by omega, by omega, by omega, by omega, by simp⟩
      · left
        exact ⟨rfl, by decide⟩
    · by_cases h3 : U.at' s i < 240
      · rw [U.dec3 s i (by omega) h3]
        split
        · rename_i hc
          have := (U.tl_iff s (i + 1)).1 hc.1.1
          have := (U.tl_iff s (i + 2)).1 hc.1.2
          right
          simp only
          exact ⟨by omega, by omega, by omega, by omega, by simp⟩
        · left
          exact ⟨rfl, by decide⟩
      · rw [U.dec4 s i (by omega) (by omega)]
        split
        · rename_i hc
          right
          simp only
          exact ⟨by omega, by omega, by omega, by omega, by simp⟩
        · left
          exact ⟨rfl, by decide⟩

/-- The barred chars of a text. -/
def Bars (t : ByteArray) (a b : Int) : Prop := (t = ⟨#[39]⟩ ∧ a = 39 ∧ b = 39) ∨ (t = ⟨#[93, 45]⟩ ∧ a = 93 ∧ b = 45)
theorem Bars.bar {t : ByteArray} {a b : Int} (h : Bars t a b) : Barred t := by
  rcases h with ⟨h, _⟩ | ⟨h, _⟩
  · exact .inl h
  · exact .inr h
theorem Bars.bs {t : ByteArray} {a b : Int} (h : Bars t a b) : a ≠ 92 ∧ b ≠ 92 ∧ 0 < a ∧ 0 < b ∧ a < 128 ∧ b < 128 := by
  rcases h with ⟨_, rfl, rfl⟩ | ⟨_, rfl, rfl⟩ <;> decide
theorem Bars.has {t : ByteArray} {a b : Int} (h : Bars t a b) (x : Nat) : barB t x = decide ((x : Int) = a ∨ (x : Int) = b) := by
  rcases h with ⟨rfl, rfl, rfl⟩ | ⟨rfl, rfl, rfl⟩
  · rw [Bool.eq_iff_iff]
    simp [barB]
    omega
  · rw [Bool.eq_iff_iff]
    simp [barB]
    omega

set_option maxRecDepth 100000 in
set_option maxHeartbeats 1000000 in
theorem char_esc (w : World) (k : Nat) (s : ByteArray) (c : C) (m vR : Value) (t : ByteArray) (hR : RB w k s c m vR) (hs : s.size ≤ 2000) (hi : c.i ≤ s.size) (hT : Tabs w) (h92 : G.pk s c.i = 92) :
    Calls Tryz.prog 160 #[.pointer (some ⟨k, 0, none⟩), .string t] w fun e w' => CharPost w k s c m vR (G.esc s c.i) e w' := by
  have hpe := peek_any w k s c m vR hR hs hi
  have hlt := G.lt_of_pk (s := s) (i := c.i) (by omega)
  rw [(pkV_eq (by omega)).2 h92] at hpe
  have hN : ∀ n, _ := fun n => escape_any (w.drewN n) k s c m vR (hR.drewN n) hs hlt (hT.below ((Kept.drewN (Kept.refl (fun _ => True) w) n).all))
  clear h92 hlt
  cases he : G.esc s c.i with
  | none =>
    rw [he] at hN
    clear he
    go_enter Tryz.func160, Tryz.ntmps160
    go_wp2_with (first
      | (go_at_call 98; refine hpe.mono ?_; rintro e w1 ⟨rfl, n, rfl⟩)
      | (go_at_call 169; refine (hN n).mono ?_; rintro e w2 ⟨hg, rfl, hR2⟩))
    go_ret2
    exact ⟨(Kept.drewN (Kept.refl _ w) n).trans hg, rfl, hR2⟩
  | some q =>
    obtain ⟨x, j⟩ := q
    rw [he] at hN
    clear he
    go_enter Tryz.func160, Tryz.ntmps160
    go_wp2_with (first
      | (go_at_call 98; refine hpe.mono ?_; rintro e w1 ⟨rfl, n, rfl⟩)
      | (go_at_call 169; refine (hN n).mono ?_; rintro e w2 ⟨hg, rfl, hR2⟩))
    go_ret2
    exact ⟨(Kept.drewN (Kept.refl _ w) n).trans hg, rfl, hR2⟩

/-- What char makes of a rune that was decoded. -/
def decO (t : ByteArray) (i X K : Nat) : Option (Nat × Nat) := if X = 65533 ∧ K ≤ 1 then none else if barB t X = true then none else some (X, i + K)

set_option maxRecDepth 100000 in
set_option maxHeartbeats 1000000 in
theorem char_dec (w : World) (k : Nat) (s : ByteArray) (c : C) (m vR : Value) (t : ByteArray) (ht : Barred t) (X K : Nat) (hR : RB w k s c m vR) (hs : s.size ≤ 2000) (hi : c.i ≤ s.size) (hT : Tabs w) (h92 : ¬ G.pk s c.i = 92)
    (hD : Lib.decodeGo (s.extract c.i s.size) = (X, K)) (hX : X ≤ 1114111) (hv : X < 55296 ∨ 57344 ≤ X) (hK : c.i + K ≤ s.size) :
    Calls Tryz.prog 160 #[.pointer (some ⟨k, 0, none⟩), .string t] w fun e w' => CharPost w k s c m vR (decO t c.i X K) e w' := by
  have hpe := peek_any w k s c m vR hR hs hi
  have hne := pkV_ne (s := s) (i := c.i) (c := 92) (by omega) h92
  obtain ⟨c0, c1, c2, c3, c4, c5, c6, fr⟩ := hR.reads
  have h0 : (0 : Int) ≤ (c.i : Int) := by omega
  have h1 : (c.i : Int) ≤ (s.size : Int) := by omega
  clear h92
  generalize pkV s c.i = pv at hpe hne
  have hC : ∀ w, _ := fun w => contains_any t ht X hX hv w
  have hdc : ∀ w, Tabs w → _ := fun w hT => Tryz.utf8_DecodeRuneInString (s.extract c.i s.size) w hT.utf
  rw [hD] at hdc
  simp only at hdc
  obtain ⟨Y, hY⟩ : ∃ Y : Int, Y = (X : Int) := ⟨_, rfl⟩
  have HY : Hid (Y = (X : Int)) := hY
  simp only [← hY] at hC hdc
  have y0 : 0 ≤ Y := by omega
  have y1 : Y ≤ 1114111 := by omega
  by_cases hn : X = 65533 ∧ K ≤ 1
  · have hY5 : Y = 65533 := by omega
    have hK1 : (K : Int) ≤ 1 := by omega
    rw [show decO t c.i X K = none by rw [decO, if_pos hn]]
    clear hn hY hD HY hX hv hK
    go_enter Tryz.func160, Tryz.ntmps160
    go_wp2_with (go_at_call 98; refine hpe.mono ?_; rintro e w1 ⟨rfl, n, rfl⟩)
    have hRn := hR.drewN n
    have hTn : Tabs (w.drewN n) := hT.below ((Kept.drewN (Kept.refl (fun _ => True) w) n).all)
    have hKn : Gr k w (w.drewN n) := Kept.drewN (Kept.refl _ w) n
    have r0 : ∀ d os, (Sort.grow (redrawn (w.drewN n) d) os).cell? ⟨k, 0, none⟩ = some (.string s) := fun d os => cell_regrown c0 d os
    have r1 : ∀ d os, (Sort.grow (redrawn (w.drewN n) d) os).cell? ⟨k, 1, none⟩ = some (.int .i64 (c.i : Int)) := fun d os => cell_regrown c1 d os
    have hN : ∀ d os, _ :=
      fun d os => Calls.regrown_of (hdc _ (hTn.below (below_regrown (w.drewN n) d os)))
    clear hdc
    generalize w.drewN n = wn at *
    refine wp_region_quiet_below (by kernel_rfl) (by kernel_rfl) ?_
    repeat (first | go_big_quiet_step (exact hN _ _) | quiet_step (exact hN _ _))
    refine wpQuiet_nil ?_
    intro _ hw'
    obtain ⟨⟨dq, osq⟩, hw''⟩ := hw'
    subst hw''
    have hbel := below_regrown wn dq osq
    have hR1 := hRn.below hbel
    have HB : Hid _ := hbel
    clear hbel r0 hN
    go_wp2_with (go_at_call 127; refine (fail_any _ k s c m vR c.i 2 hR1).mono ?_; rintro e w2 ⟨rfl, hR2, hE2⟩)
    go_ret2
    exact ⟨(hKn.trans (Gr.below HB.out)).trans hE2.kept, rfl, hR2⟩
  · have hkl : K ≤ 2000 := by omega
    cases hb : barB t X with
    | true =>
      rw [hb] at hC
      rw [show decO t c.i X K = none by rw [decO, if_neg hn, if_pos hb]]
      rcases (by omega : (Y = 65533 ∧ 1 < K) ∨ ¬ Y = 65533) with ⟨rfl, hK1⟩ | hY5
      all_goals
        clear hn hY hD HY hX hv hb
        go_enter Tryz.func160, Tryz.ntmps160
        go_wp2_with (go_at_call 98; refine hpe.mono ?_; rintro e w1 ⟨rfl, n, rfl⟩)
        have hRn := hR.drewN n
        have hTn : Tabs (w.drewN n) := hT.below ((Kept.drewN (Kept.refl (fun _ => True) w) n).all)
        have hKn : Gr k w (w.drewN n) := Kept.drewN (Kept.refl _ w) n
        have r0 : ∀ d os, (Sort.grow (redrawn (w.drewN n) d) os).cell? ⟨k, 0, none⟩ = some (.string s) := fun d os => cell_regrown c0 d os
        have r1 : ∀ d os, (Sort.grow (redrawn (w.drewN n) d) os).cell? ⟨k, 1, none⟩ = some (.int .i64 (c.i : Int)) := fun d os => cell_regrown c1 d os
        have hN : ∀ d os, _ :=
          fun d os => Calls.regrown_of (hdc _ (hTn.below (below_regrown (w.drewN n) d os)))
        clear hdc
        generalize w.drewN n = wn at *
        refine wp_region_quiet_below (by kernel_rfl) (by kernel_rfl) ?_
        repeat (first | go_big_quiet_step (exact hN _ _) | quiet_step (exact hN _ _))
        refine wpQuiet_nil ?_
        intro _ hw'
        obtain ⟨⟨dq, osq⟩, hw''⟩ := hw'
        subst hw''
        have hbel := below_regrown wn dq osq
        have hR1 := hRn.below hbel
        have HB : Hid _ := hbel
        clear hbel r0 hN
        generalize Sort.grow (redrawn wn dq) osq = wg at *
        go_wp2_with (first
          | (go_at_call 127; refine (fail_any w3 k s c m vR c.i 2 hR3).mono ?_; rintro e w2 ⟨rfl, hR2, hE2⟩)
          | (go_at_call 171; refine (hC wg).mono ?_; rintro e w3 ⟨rfl, hb3⟩; have hR3 := hR1.below hb3; obtain ⟨d0, d1, d2, d3, d4, d5, d6, dr⟩ := hR3.reads))
        go_ret2
        exact ⟨((hKn.trans (Gr.below HB.out)).trans (Gr.below hb3)).trans hE2.kept, rfl, hR2⟩
    | false =>
      rw [hb] at hC
      rw [show decO t c.i X K = some (X, c.i + K) by rw [decO, if_neg hn, if_neg (by rw [hb]; decide)]]
      rcases (by omega : (Y = 65533 ∧ 1 < K) ∨ ¬ Y = 65533) with ⟨rfl, hK1⟩ | hY5
      all_goals
        clear hn hY hD hX hv hb
        go_enter Tryz.func160, Tryz.ntmps160
        go_wp2_with (go_at_call 98; refine hpe.mono ?_; rintro e w1 ⟨rfl, n, rfl⟩)
        have hRn := hR.drewN n
        have hTn : Tabs (w.drewN n) := hT.below ((Kept.drewN (Kept.refl (fun _ => True) w) n).all)
        have hKn : Gr k w (w.drewN n) := Kept.drewN (Kept.refl _ w) n
        have r0 : ∀ d os, (Sort.grow (redrawn (w.drewN n) d) os).cell? ⟨k, 0, none⟩ = some (.string s) := fun d os => cell_regrown c0 d os
        have r1 : ∀ d os, (Sort.grow (redrawn (w.drewN n) d) os).cell? ⟨k, 1, none⟩ = some (.int .i64 (c.i : Int)) := fun d os => cell_regrown c1 d os
        have hN : ∀ d os, _ :=
          fun d os => Calls.regrown_of (hdc _ (hTn.below (below_regrown (w.drewN n) d os)))
        clear hdc
        generalize w.drewN n = wn at *
        refine wp_region_quiet_below (by kernel_rfl) (by kernel_rfl) ?_
        repeat (first | go_big_quiet_step (exact hN _ _) | quiet_step (exact hN _ _))
        refine wpQuiet_nil ?_
        intro _ hw'
        obtain ⟨⟨dq, osq⟩, hw''⟩ := hw'
        subst hw''
        have hbel := below_regrown wn dq osq
        have hR1 := hRn.below hbel
        have HB : Hid _ := hbel
        clear hbel r0 hN
        generalize Sort.grow (redrawn wn dq) osq = wg at *
        go_wp2_with (go_at_call 171; refine (hC wg).mono ?_; rintro e w3 ⟨rfl, hb3⟩; have hR3 := hR1.below hb3; obtain ⟨d0, d1, d2, d3, d4, d5, d6, dr⟩ := hR3.reads)
        go_ret2
        refine ⟨Gr.set ((hKn.trans (Gr.below HB.out)).trans (Gr.below hb3)) _ _, ?_, hR3.add K⟩
        rw [← HY.out]
        rfl

theorem char_any (w : World) (k : Nat) (s : ByteArray) (c : C) (m vR : Value) (t : ByteArray) (a b : Int) (hab : Bars t a b) (hR : RB w k s c m vR) (hs : s.size ≤ 2000) (hi : c.i ≤ s.size) (hT : Tabs w) :
    Calls Tryz.prog 160 #[.pointer (some ⟨k, 0, none⟩), .string t] w fun e w' => CharPost w k s c m vR (G.chr s a b c.i) e w' := by
  have hbs := hab.bs
  by_cases h92 : G.pk s c.i = 92
  · have e : G.chr s a b c.i = G.esc s c.i := by
      rw [G.chr, if_neg (by omega), if_pos h92]
    rw [e]
    exact char_esc w k s c m vR t hR hs hi hT h92
  · by_cases hlt : c.i < s.size
    · have hpk := G.pk_lt hlt
      have hsz := extract_size s c.i hi
      have hD : Lib.decodeGo (s.extract c.i s.size) = Utf8.decode s c.i := by
        rw [Lib.decodeGo, if_neg (by omega), Lib.tail_decode]
        rfl
      have hwd := U.width s c.i hlt
      by_cases h8 : U.at' s c.i < 128
      · rw [U.dec1 s c.i h8] at hD
        have h := char_dec w k s c m vR t hab.bar _ _ hR hs hi hT h92 hD (by omega) (by omega) (by omega)
        have e : decO t c.i (U.at' s c.i) 1 = G.chr s a b c.i := by
          rw [decO, if_neg (by omega), hab.has, G.chr, hpk]
          by_cases hx : ((U.at' s c.i : Int) = a ∨ (U.at' s c.i : Int) = b)
          · rw [if_pos (by simpa using hx), if_pos (.inr hx)]
          · rw [if_neg (by simpa using hx), if_neg (by omega), if_neg (by rw [← hpk]; exact h92), if_pos (by rw [G.well, if_pos h8]), U.dec1 s c.i h8]
        rw [e] at h
        exact h
      · rcases dec_cases s c.i (by omega) with ⟨d1, d2⟩ | ⟨d1, d2, d3, d4, d5⟩
        · rw [d1] at hD
          have h := char_dec w k s c m vR t hab.bar _ _ hR hs hi hT h92 hD (by omega) (by omega) (by omega)
          have e : decO t c.i 65533 1 = G.chr s a b c.i := by
            rw [decO, if_pos ⟨rfl, Nat.le_refl _⟩, G.chr, if_neg (by omega), if_neg h92, if_neg (by rw [d2]; decide)]
          rw [e] at h
          exact h
        · have h := char_dec w k s c m vR t hab.bar (Utf8.decode s c.i).1 (Utf8.decode s c.i).2 hR hs hi hT h92 hD d3 d4 hwd.2
          have e : decO t c.i (Utf8.decode s c.i).1 (Utf8.decode s c.i).2 = G.chr s a b c.i := by
            rw [decO, if_neg (by omega), hab.has, if_neg (by simp; omega), G.chr, if_neg (by omega), if_neg h92, if_pos d5]
          rw [e] at h
          exact h
    · have hpk := G.pk_ge hlt
      have hD : Lib.decodeGo (s.extract c.i s.size) = (65533, 0) := by
        rw [Lib.decodeGo, if_pos (by rw [extract_size s c.i hi]; omega)]
      have h := char_dec w k s c m vR t hab.bar _ _ hR hs hi hT h92 hD (by omega) (by omega) (by omega)
      have e : decO t c.i 65533 0 = G.chr s a b c.i := by
        rw [decO, if_pos ⟨rfl, Nat.zero_le _⟩, G.chr, if_pos (.inl (by omega))]
      rw [e] at h
      exact h

end Pr
end Go.Proofs.YtpgcidpghmoibaaGreatDoor

namespace Go.Proofs.YtpgcidpghmoibaaGreatDoor
namespace G

def Few (N : Nat) (T : List PNode) : Prop := ∀ x ∈ T, x.parts.length ≤ N ∧ x.ranges.length ≤ N
theorem Few.nil (N : Nat) : Few N [] := fun x hx => by simp at hx
theorem Few.snoc {N : Nat} {T : List PNode} (h : Few N T) (T0 : List PNode) (k : Nat) (rs : List (Nat × Nat)) (o : Bool) (ps : List Nat) (hp : ps.length ≤ N) (hr : rs.length ≤ N) : Few N (T ++ [mk T0 k rs o ps]) := by
  intro x hx
  rcases List.mem_append.1 hx with hx | hx
  · exact h x hx
  · simp only [List.mem_singleton] at hx
    subst hx
    exact ⟨hp, hr⟩
def NT.pr : NT → Nat
  | .atom => 1
  | _ => 0
def Res.Few (s : ByteArray) (nt : NT) (i : Nat) : Res → Prop
  | .ok _ j T' => i + nt.pr ≤ j ∧ j ≤ s.size ∧ G.Few (s.size + 1) T'
  | .err _ _ => True

theorem R.few {s : ByteArray} {E : List (ByteArray × Nat)} {nt : NT} {d i : Nat} {T : List PNode} {r : Res} (h : R s E nt d i T r) :
    i ≤ s.size → nt.parts.length ≤ i → nt.ranges.length ≤ i → Few (s.size + 1) T → r.Few s nt i := by
  induction h with
  | quoteErr | setErr | setErr2 | setErr3 | deep | nameForm | nameErr | seqForm => intros; trivial
  | parenErr | parenForm | seqErr | exprErr => intros; trivial
  | @quoteEnd ps d i T x j h h2 =>
    intro hi hp _ hT
    have b := chr_bd h
    have hj := lt_of_pk (s := s) (i := j) (by omega)
    simp only [NT.parts] at hp
    exact ⟨by simp [NT.pr]; omega, by omega, (hT.snoc T 115 [(x, x)] false [] (by simp) (by simp)).snoc _ 113 [] false (ps ++ [T.length]) (by simp; omega) (by simp)⟩
  | @quoteMore ps d i T x j r h h2 _ ih =>
    intro hi hp hr hT
    have b := chr_bd h
    simp only [NT.parts] at hp
    have := ih (by omega) (by simp [NT.parts]; omega) (by simp [NT.ranges]) (hT.snoc T 115 [(x, x)] false [] (by simp) (by simp))
    cases r with
    | err e p => trivial
    | ok n j' T' => exact ⟨by have := this.1; simp [NT.pr] at this ⊢; omega, this.2⟩
  | @setEnd o rs d i T h =>
    intro hi _ hr hT
    have hj := lt_of_pk (s := s) (i := i) (by omega)
    simp only [NT.ranges] at hr
    exact ⟨by simp [NT.pr], by omega, hT.snoc T 115 rs o [] (by simp) (by omega)⟩
  | @setOne o rs d i T a j r h h2 h3 _ ih =>
    intro hi hp hr hT
    have b := chr_bd h2
    simp only [NT.ranges] at hr
    have := ih (by omega) (by simp [NT.parts]) (by simp [NT.ranges]; omega) hT
    cases r with
    | err e p => trivial
    | ok n j' T' => exact ⟨by have := this.1; simp [NT.pr] at this ⊢; omega, this.2⟩
  | @setTwo o rs d i T a j b' k r h h2 h3 h4 h5 _ ih =>
    intro hi hp hr hT
    have b := chr_bd h2
    have c := chr_bd h4
    simp only [NT.ranges] at hr
    have := ih (by omega) (by simp [NT.parts]) (by simp [NT.ranges]; omega) hT
    cases r with
    | err e p => trivial
    | ok n j' T' => exact ⟨by have := this.1; simp [NT.pr] at this ⊢; omega, this.2⟩
  | @paren d i T n j T' h h2 _ h3 ih =>
    intro hi hp hr hT
    have hj := lt_of_pk (s := s) (i := i) (by omega)
    have a := ih (by omega) (by simp [NT.parts]) (by simp [NT.ranges]) hT
    have hk := lt_of_pk (s := s) (i := skip s j) (by omega)
    have hg := skip_ge s j
    exact ⟨by have := a.1; simp [NT.pr] at this ⊢; omega, by omega, a.2.2⟩
  | @dot d i T h =>
    intro hi _ _ hT
    have hj := lt_of_pk (s := s) (i := i) (by omega)
    exact ⟨by simp [NT.pr], by omega, hT.snoc T 115 [] true [] (by simp) (by simp)⟩
  | @name d i T n h h2 h3 =>
    intro hi _ _ hT
    have hj := lt_of_pk (s := s) (i := i) (by omega)
    have hg := wend_ge s (i + 1)
    have hl := wend_le s (i + 1) (by omega)
    exact ⟨by simp [NT.pr]; omega, hl, hT⟩
  | @quote d i T r h _ ih =>
    intro hi _ _ hT
    have hj := lt_of_pk (s := s) (i := i) (by omega)
    have := ih (by omega) (by simp [NT.parts]) (by simp [NT.ranges]) hT
    cases r with
    | err e p => trivial
    | ok n j' T' => exact ⟨by have := this.1; simp [NT.pr] at this ⊢; omega, this.2⟩
  | @setNot d i T r h h2 _ ih =>
    intro hi _ _ hT
    have hj := lt_of_pk (s := s) (i := i + 1) (by omega)
    have := ih (by omega) (by simp [NT.parts]) (by simp [NT.ranges]) hT
    cases r with
    | err e p => trivial
    | ok n j' T' => exact ⟨by have := this.1; simp [NT.pr] at this ⊢; omega, this.2⟩
  | @set d i T r h h2 _ ih =>
    intro hi _ _ hT
    have hj := lt_of_pk (s := s) (i := i) (by omega)
    have := ih (by omega) (by simp [NT.parts]) (by simp [NT.ranges]) hT
    cases r with
    | err e p => trivial
    | ok n j' T' => exact ⟨by have := this.1; simp [NT.pr] at this ⊢; omega, this.2⟩
  | @seqRep ps d i T n j T' r h _ h3 _ ih1 ih2 =>
    intro hi hp _ hT
    have hg := skip_ge s i
    obtain ⟨a1, a2, a3⟩ := ih1 (skip_le s _ hi) (by simp [NT.parts]) (by simp [NT.ranges]) hT
    simp only [NT.pr] at a1
    simp only [NT.parts] at hp
    have hg2 := skip_ge s j
    have hk := lt_of_pk (s := s) (i := skip s j) (by simp [repeats] at h3; omega)
    have := ih2 (by omega) (by simp [NT.parts]; omega) (by simp [NT.ranges]) (a3.snoc T' _ [] false [n] (by simp) (by simp))
    cases r with
    | err e p => trivial
    | ok n j' T' => exact ⟨by have := this.1; simp [NT.pr] at this ⊢; omega, this.2⟩
  | @seqItem ps d i T n j T' r h _ h3 _ ih1 ih2 =>
    intro hi hp _ hT
    have hg := skip_ge s i
    obtain ⟨a1, a2, a3⟩ := ih1 (skip_le s _ hi) (by simp [NT.parts]) (by simp [NT.ranges]) hT
    simp only [NT.pr] at a1
    simp only [NT.parts] at hp
    have hg2 := skip_ge s j
    have := ih2 (skip_le s _ a2) (by simp [NT.parts]; omega) (by simp [NT.ranges]) a3
    cases r with
    | err e p => trivial
    | ok n j' T' => exact ⟨by have := this.1; simp [NT.pr] at this ⊢; omega, this.2⟩
  | @seqEnd ps d i T h hn =>
    intro hi hp _ hT
    have hg := skip_ge s i
    simp only [NT.parts] at hp
    exact ⟨by simp [NT.pr]; omega, skip_le s _ hi, hT.snoc T 113 [] false ps (by omega) (by simp)⟩
  | @exprMore ps d i T n j T' r _ h2 _ ih1 ih2 =>
    intro hi hp _ hT
    obtain ⟨a1, a2, a3⟩ := ih1 hi (by simp [NT.parts]) (by simp [NT.ranges]) hT
    simp only [NT.pr] at a1
    simp only [NT.parts] at hp
    have hg2 := skip_ge s j
    have hk := lt_of_pk (s := s) (i := skip s j) (by omega)
    have := ih2 (by omega) (by simp [NT.parts]; omega) (by simp [NT.ranges]) a3
    cases r with
    | err e p => trivial
    | ok n j' T' => exact ⟨by have := this.1; simp [NT.pr] at this ⊢; omega, this.2⟩
  | @exprEnd ps d i T n j T' _ h2 ih =>
    intro hi hp _ hT
    obtain ⟨a1, a2, a3⟩ := ih hi (by simp [NT.parts]) (by simp [NT.ranges]) hT
    simp only [NT.pr] at a1
    simp only [NT.parts] at hp
    have hg2 := skip_ge s j
    exact ⟨by simp [NT.pr]; omega, skip_le s _ a2, a3.snoc T' 99 [] false (ps ++ [n]) (by simp; omega) (by simp)⟩

def SRes.Few (s : ByteArray) : SRes → Prop
  | .rule _ j T' => j ≤ s.size ∧ G.Few (s.size + 1) T'
  | .defn _ _ j T' => j ≤ s.size ∧ G.Few (s.size + 1) T'
  | .err _ _ => True
theorem Stm.few {s : ByteArray} {E : List (ByteArray × Nat)} {k : Nat} {T : List PNode} {r : SRes} (h : Stm s E k T r) (hk : k ≤ s.size) (hT : Few (s.size + 1) T) : r.Few s := by
  cases h with
  | ruleErr | ruleForm | dup | defErr | defForm => trivial
  | @rule n j T' h1 hr h3 =>
    have a := hr.few hk (by simp [NT.parts]) (by simp [NT.ranges]) hT
    have hlt := lt_of_pk (s := s) (i := skip s j) (by omega)
    exact ⟨by omega, a.2.2⟩
  | @defn n j T' h1 h2 hr h3 =>
    have h4 := lt_of_pk (s := s) (i := skip s (wend s (k + 1))) (by have := h1.2.2; omega)
    have a := hr.few (by omega) (by simp [NT.parts]) (by simp [NT.ranges]) hT
    have hlt := lt_of_pk (s := s) (i := skip s j) (by omega)
    exact ⟨by omega, a.2.2⟩
def Fin'.Few (s : ByteArray) : Fin' → Prop
  | .ok _ T => G.Few (s.size + 1) T
  | .err _ _ => True
theorem Src.few {s : ByteArray} {i : Nat} {E : List (ByteArray × Nat)} {Q : List Nat} {T : List PNode} {r : Fin'} (h : Src s i E Q T r) : i ≤ s.size → Few (s.size + 1) T → r.Few s := by
  induction h with
  | done => intro _ hT; exact hT
  | err => intros; trivial
  | rule h1 h2 _ ih => intro _ hT; have := h2.few (by omega) hT; exact ih this.1 this.2
  | defn h1 h2 _ ih => intro _ hT; have := h2.few (by omega) hT; exact ih this.1 this.2

/-- How long the table and the rules of a source are. -/
def Fin'.Long (s : ByteArray) : Fin' → Prop
  | .ok Q T => T.length ≤ 4 * s.size ∧ Q.length ≤ s.size
  | .err _ _ => True
theorem Src.long {s : ByteArray} {i : Nat} {E : List (ByteArray × Nat)} {Q : List Nat} {T : List PNode} {r : Fin'} (h : Src s i E Q T r) : i ≤ s.size → WF T → (∀ x ∈ E, x.2 < T.length) → T.length ≤ 4 * i → Q.length ≤ i → r.Long s := by
  induction h with
  | done => intro hi _ _ h1 h2; exact ⟨by omega, by omega⟩
  | err => intros; trivial
  | @rule i E Q T n j T' r h1 h2 _ ih =>
    intro hi hT hE hl hq
    have hg := skip_ge s i
    obtain ⟨a1, a2, a3, a4, a5, a6⟩ := h2.fine (by omega) hT hE (by omega)
    exact ih a2 a4 (fun x hx => by have := hE x hx; omega) a6 (by simp; omega)
  | @defn i E Q T nm n j T' r h1 h2 _ ih =>
    intro hi hT hE hl hq
    have hg := skip_ge s i
    obtain ⟨a1, a2, a3, a4, a5, a6⟩ := h2.fine (by omega) hT hE (by omega)
    refine ih a2 a4 (fun x hx => ?_) a6 (by omega)
    rcases List.mem_append.1 hx with hx | hx
    · have := hE x hx; omega
    · simp only [List.mem_singleton] at hx; subst hx; exact a3

end G
end Go.Proofs.YtpgcidpghmoibaaGreatDoor

namespace Go.Proofs.YtpgcidpghmoibaaGreatDoor
namespace G

theorem R.det {s : ByteArray} {E : List (ByteArray × Nat)} {nt : NT} {d i : Nat} {T : List PNode} {r : Res} (h : R s E nt d i T r) : ∀ r', R s E nt d i T r' → r = r' := by
  induction h with
  | quoteErr h1 =>
    intro r' g
    cases g with
    | quoteErr g1 => rfl
    | quoteEnd g1 | quoteMore g1 => rw [h1] at g1; cases g1
  | quoteEnd h1 h2 =>
    intro r' g
    cases g with
    | quoteErr g1 => rw [h1] at g1; cases g1
    | quoteEnd g1 g2 => rw [h1] at g1; cases g1; rfl
    | quoteMore g1 g2 g3 => rw [h1] at g1; cases g1; exact absurd h2 g2
  | quoteMore h1 h2 h3 ih =>
    intro r' g
    cases g with
    | quoteErr g1 => rw [h1] at g1; cases g1
    | quoteEnd g1 g2 => rw [h1] at g1; cases g1; exact absurd g2 h2
    | quoteMore g1 g2 g3 => rw [h1] at g1; cases g1; exact ih _ g3
  | setEnd h1 =>
    intro r' g
    cases g with
    | setEnd g1 => rfl
    | setErr g1 | setOne g1 | setErr2 g1 | setErr3 g1 | setTwo g1 => exact absurd h1 g1
  | setErr h1 h2 =>
    intro r' g
    cases g with
    | setEnd g1 => exact absurd g1 h1
    | setErr g1 => rfl
    | setOne g1 g2 | setErr2 g1 g2 | setErr3 g1 g2 | setTwo g1 g2 => rw [h2] at g2; cases g2
  | setOne h1 h2 h3 h4 ih =>
    intro r' g
    cases g with
    | setEnd g1 => exact absurd g1 h1
    | setErr g1 g2 => rw [h2] at g2; cases g2
    | setOne g1 g2 g3 g4 => rw [h2] at g2; cases g2; exact ih _ g4
    | setErr2 g1 g2 g3 | setErr3 g1 g2 g3 | setTwo g1 g2 g3 => rw [h2] at g2; cases g2; exact absurd g3 h3
  | setErr2 h1 h2 h3 h4 =>
    intro r' g
    cases g with
    | setEnd g1 => exact absurd g1 h1
    | setErr g1 g2 => rw [h2] at g2; cases g2
    | setOne g1 g2 g3 g4 => rw [h2] at g2; cases g2; exact absurd h3 g3
    | setErr2 g1 g2 g3 g4 => rw [h2] at g2; cases g2; rfl
    | setErr3 g1 g2 g3 g4 | setTwo g1 g2 g3 g4 => rw [h2] at g2; cases g2; rw [h4] at g4; cases g4
  | setErr3 h1 h2 h3 h4 h5 =>
    intro r' g
    cases g with
    | setEnd g1 => exact absurd g1 h1
    | setErr g1 g2 => rw [h2] at g2; cases g2
    | setOne g1 g2 g3 g4 => rw [h2] at g2; cases g2; exact absurd h3 g3
    | setErr2 g1 g2 g3 g4 => rw [h2] at g2; cases g2; rw [h4] at g4; cases g4
    | setErr3 g1 g2 g3 g4 => rfl
    | setTwo g1 g2 g3 g4 g5 => rw [h2] at g2; cases g2; rw [h4] at g4; cases g4; omega
  | setTwo h1 h2 h3 h4 h5 h6 ih =>
    intro r' g
    cases g with
    | setEnd g1 => exact absurd g1 h1
    | setErr g1 g2 => rw [h2] at g2; cases g2
    | setOne g1 g2 g3 g4 => rw [h2] at g2; cases g2; exact absurd h3 g3
    | setErr2 g1 g2 g3 g4 => rw [h2] at g2; cases g2; rw [h4] at g4; cases g4
    | setErr3 g1 g2 g3 g4 g5 => rw [h2] at g2; cases g2; rw [h4] at g4; cases g4; omega
    | setTwo g1 g2 g3 g4 g5 g6 => rw [h2] at g2; cases g2; rw [h4] at g4; cases g4; exact ih _ g6
  | deep h1 h2 => intro r' g; cases g <;> first | rfl | (exfalso; omega)
  | parenErr h1 h2 h3 ih =>
    intro r' g
    cases g with
    | parenErr g1 g2 g3 => exact ih _ g3
    | parenForm g1 g2 g3 => have := ih _ g3; cases this
    | paren g1 g2 g3 => have := ih _ g3; cases this
    | _ => exfalso; omega
  | parenForm h1 h2 h3 h4 ih =>
    intro r' g
    cases g with
    | parenErr g1 g2 g3 => have := ih _ g3; cases this
    | parenForm g1 g2 g3 => have := ih _ g3; cases this; rfl
    | paren g1 g2 g3 g4 => have := ih _ g3; cases this; exact absurd g4 h4
    | _ => exfalso; omega
  | paren h1 h2 h3 h4 ih =>
    intro r' g
    cases g with
    | parenErr g1 g2 g3 => have := ih _ g3; cases this
    | parenForm g1 g2 g3 g4 => have := ih _ g3; cases this; exact absurd h4 g4
    | paren g1 g2 g3 g4 => have := ih _ g3; cases this; rfl
    | _ => exfalso; omega
  | dot h1 => intro r' g; cases g <;> first | rfl | (exfalso; omega)
  | nameForm h1 h2 => intro r' g; cases g <;> first | rfl | (exfalso; omega)
  | nameErr h1 h2 h3 =>
    intro r' g
    cases g with
    | nameErr => rfl
    | name g1 g2 g3 => rw [h3] at g3; cases g3
    | _ => exfalso; omega
  | name h1 h2 h3 =>
    intro r' g
    cases g with
    | nameErr g1 g2 g3 => rw [h3] at g3; cases g3
    | name g1 g2 g3 => rw [h3] at g3; cases g3; rfl
    | _ => exfalso; omega
  | quote h1 h2 ih =>
    intro r' g
    cases g with
    | quote g1 g2 => exact ih _ g2
    | _ => exfalso; omega
  | setNot h1 h2 h3 ih =>
    intro r' g
    cases g with
    | setNot g1 g2 g3 => exact ih _ g3
    | _ => exfalso; omega
  | set h1 h2 h3 ih =>
    intro r' g
    cases g with
    | set g1 g2 g3 => exact ih _ g3
    | _ => exfalso; omega
  | seqErr h1 h2 ih =>
    intro r' g
    cases g with
    | seqErr g1 g2 => exact ih _ g2
    | seqRep g1 g2 | seqItem g1 g2 => have := ih _ g2; cases this
    | seqForm g1 | seqEnd g1 => rw [h1] at g1; cases g1
  | seqRep h1 h2 h3 h4 ih1 ih2 =>
    intro r' g
    cases g with
    | seqErr g1 g2 => have := ih1 _ g2; cases this
    | seqRep g1 g2 g3 g4 => have := ih1 _ g2; cases this; exact ih2 _ g4
    | seqItem g1 g2 g3 => have := ih1 _ g2; cases this; rw [h3] at g3; cases g3
    | seqForm g1 | seqEnd g1 => rw [h1] at g1; cases g1
  | seqItem h1 h2 h3 h4 ih1 ih2 =>
    intro r' g
    cases g with
    | seqErr g1 g2 => have := ih1 _ g2; cases this
    | seqRep g1 g2 g3 => have := ih1 _ g2; cases this; rw [h3] at g3; cases g3
    | seqItem g1 g2 g3 g4 => have := ih1 _ g2; cases this; exact ih2 _ g4
    | seqForm g1 | seqEnd g1 => rw [h1] at g1; cases g1
  | seqForm h1 =>
    intro r' g
    cases g with
    | seqErr g1 | seqRep g1 | seqItem g1 => rw [h1] at g1; cases g1
    | seqForm => rfl
    | seqEnd g1 g2 => exact absurd rfl g2
  | seqEnd h1 h2 =>
    intro r' g
    cases g with
    | seqErr g1 | seqRep g1 | seqItem g1 => rw [h1] at g1; cases g1
    | seqForm => exact absurd rfl h2
    | seqEnd => rfl
  | exprErr h1 ih =>
    intro r' g
    cases g with
    | exprErr g1 => have := ih _ g1; cases this; rfl
    | exprMore g1 | exprEnd g1 => have := ih _ g1; cases this
  | exprMore h1 h2 h3 ih1 ih2 =>
    intro r' g
    cases g with
    | exprErr g1 => have := ih1 _ g1; cases this
    | exprMore g1 g2 g3 => have := ih1 _ g1; cases this; exact ih2 _ g3
    | exprEnd g1 g2 => have := ih1 _ g1; cases this; exact absurd h2 g2
  | exprEnd h1 h2 ih =>
    intro r' g
    cases g with
    | exprErr g1 => have := ih _ g1; cases this
    | exprMore g1 g2 => have := ih _ g1; cases this; exact absurd g2 h2
    | exprEnd g1 g2 => have := ih _ g1; cases this; rfl

theorem Stm.det {s : ByteArray} {E : List (ByteArray × Nat)} {k : Nat} {T : List PNode} {r r' : SRes} (h : Stm s E k T r) (g : Stm s E k T r') : r = r' := by
  cases h with
  | ruleErr h1 h2 =>
    cases g with
    | ruleErr g1 g2 => have := h2.det _ g2; cases this; rfl
    | ruleForm g1 g2 | rule g1 g2 => have := h2.det _ g2; cases this
    | dup g1 | defErr g1 | defForm g1 | defn g1 => exact absurd g1 h1
  | ruleForm h1 h2 h3 =>
    cases g with
    | ruleErr g1 g2 => have := h2.det _ g2; cases this
    | ruleForm g1 g2 => have := h2.det _ g2; cases this; rfl
    | rule g1 g2 g3 => have := h2.det _ g2; cases this; exact absurd g3 h3
    | dup g1 | defErr g1 | defForm g1 | defn g1 => exact absurd g1 h1
  | rule h1 h2 h3 =>
    cases g with
    | ruleErr g1 g2 => have := h2.det _ g2; cases this
    | ruleForm g1 g2 g3 => have := h2.det _ g2; cases this; exact absurd h3 g3
    | rule g1 g2 => have := h2.det _ g2; cases this; rfl
    | dup g1 | defErr g1 | defForm g1 | defn g1 => exact absurd g1 h1
  | dup h1 h2 =>
    cases g with
    | ruleErr g1 | ruleForm g1 | rule g1 => exact absurd h1 g1
    | dup => rfl
    | defErr g1 g2 | defForm g1 g2 | defn g1 g2 => rw [h2] at g2; cases g2
  | defErr h1 h2 h3 =>
    cases g with
    | ruleErr g1 | ruleForm g1 | rule g1 => exact absurd h1 g1
    | dup g1 g2 => rw [h2] at g2; cases g2
    | defErr g1 g2 g3 => have := h3.det _ g3; cases this; rfl
    | defForm g1 g2 g3 | defn g1 g2 g3 => have := h3.det _ g3; cases this
  | defForm h1 h2 h3 h4 =>
    cases g with
    | ruleErr g1 | ruleForm g1 | rule g1 => exact absurd h1 g1
    | dup g1 g2 => rw [h2] at g2; cases g2
    | defErr g1 g2 g3 => have := h3.det _ g3; cases this
    | defForm g1 g2 g3 => have := h3.det _ g3; cases this; rfl
    | defn g1 g2 g3 g4 => have := h3.det _ g3; cases this; exact absurd g4 h4
  | defn h1 h2 h3 h4 =>
    cases g with
    | ruleErr g1 | ruleForm g1 | rule g1 => exact absurd h1 g1
    | dup g1 g2 => rw [h2] at g2; cases g2
    | defErr g1 g2 g3 => have := h3.det _ g3; cases this
    | defForm g1 g2 g3 g4 => have := h3.det _ g3; cases this; exact absurd h4 g4
    | defn g1 g2 g3 => have := h3.det _ g3; cases this; rfl

/-- A source means one thing. -/
theorem Src.det {s : ByteArray} {i : Nat} {E : List (ByteArray × Nat)} {Q : List Nat} {T : List PNode} {r : Fin'} (h : Src s i E Q T r) : ∀ r', Src s i E Q T r' → r = r' := by
  induction h with
  | done h1 =>
    intro r' g
    cases g with
    | done => rfl
    | err g1 | rule g1 | defn g1 => exact absurd g1 h1
  | err h1 h2 =>
    intro r' g
    cases g with
    | done g1 => exact absurd h1 g1
    | err g1 g2 => have := h2.det g2; cases this; rfl
    | rule g1 g2 | defn g1 g2 => have := h2.det g2; cases this
  | rule h1 h2 h3 ih =>
    intro r' g
    cases g with
    | done g1 => exact absurd h1 g1
    | err g1 g2 => have := h2.det g2; cases this
    | rule g1 g2 g3 => have := h2.det g2; cases this; exact ih _ g3
    | defn g1 g2 => have := h2.det g2; cases this
  | defn h1 h2 h3 ih =>
    intro r' g
    cases g with
    | done g1 => exact absurd h1 g1
    | err g1 g2 => have := h2.det g2; cases this
    | rule g1 g2 => have := h2.det g2; cases this
    | defn g1 g2 g3 => have := h2.det g2; cases this; exact ih _ g3

end G
end Go.Proofs.YtpgcidpghmoibaaGreatDoor
