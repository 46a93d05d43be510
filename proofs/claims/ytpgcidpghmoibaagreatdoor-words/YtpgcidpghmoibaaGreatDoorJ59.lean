/-
  THE SOURCE OF WORDS, NUMBERS AND BLANKS, read without the program: its table of nodes, and what its three rules match: letters, digits, blanks, one or more. Nothing of the program is run here. Conditions: the table of nodes is well made.
  UNITS BY THEIR NUMBER: where a unit begins and ends, and its rune. Nothing of the program is run here. No condition but those that stand at each fact.
  WORDS, NUMBERS AND BLANKS, without the program: what a segment is when a text is cut by the three rules: its rule is the kind of its first byte, it is a run of that kind, or one unit. Nothing of the program is run here. Conditions: the table of nodes is well made.
  WORDS, NUMBERS AND BLANKS, in bytes, without the program: the kind of a segment's first byte is its rule; a run of one kind reaches as far as it can; all else is one unit. Nothing of the program is run here. Conditions: the table of nodes is well made.
-/
import Derived.Test.YtpgcidpghmoibaaGreatDoorJ25
import Derived.Test.YtpgcidpghmoibaaGreatDoorJ47
import Derived.Test.YtpgcidpghmoibaaGreatDoorJ56
namespace Go.Proofs.YtpgcidpghmoibaaGreatDoor
namespace G

def wnB : ByteArray := ⟨#[36, 108, 32, 61, 32, 91, 97, 45, 122, 93, 59, 32, 36, 108, 32, 36, 108, 42, 32, 59, 32, 91, 48, 45, 57, 93, 43, 32, 59, 32, 39, 32, 39, 32, 40, 39, 32, 39, 41, 42, 32, 59]⟩
def n1 : List PNode := [] ++ [mk [] 115 ([] ++ [(97, 122)]) false []]
def n2 : List PNode := n1 ++ [mk n1 113 [] false ([] ++ [0])]
def n3 : List PNode := n2 ++ [mk n2 99 [] false ([] ++ [n1.length])]
def n4 : List PNode := n3 ++ [mk n3 42 [] false [n2.length]]
def n5 : List PNode := n4 ++ [mk n4 113 [] false (([] ++ [n2.length]) ++ [n3.length])]
def n6 : List PNode := n5 ++ [mk n5 99 [] false ([] ++ [n4.length])]
def n7 : List PNode := n6 ++ [mk n6 115 ([] ++ [(48, 57)]) false []]
def n8 : List PNode := n7 ++ [mk n7 43 [] false [n6.length]]
def n9 : List PNode := n8 ++ [mk n8 113 [] false ([] ++ [n7.length])]
def n10 : List PNode := n9 ++ [mk n9 99 [] false ([] ++ [n8.length])]
def n11 : List PNode := n10 ++ [mk n10 115 [(32, 32)] false []]
def n12 : List PNode := n11 ++ [mk n11 113 [] false ([] ++ [n10.length])]
def n13 : List PNode := n12 ++ [mk n12 115 [(32, 32)] false []]
def n14 : List PNode := n13 ++ [mk n13 113 [] false ([] ++ [n12.length])]
def n15 : List PNode := n14 ++ [mk n14 113 [] false ([] ++ [n12.length + 1])]
def n16 : List PNode := n15 ++ [mk n15 99 [] false ([] ++ [n14.length])]
def n17 : List PNode := n16 ++ [mk n16 42 [] false [n15.length]]
def n18 : List PNode := n17 ++ [mk n17 113 [] false (([] ++ [n10.length + 1]) ++ [n16.length])]
def wnT : List PNode := n18 ++ [mk n18 99 [] false ([] ++ [n17.length])]
def wnE : List (ByteArray × Nat) := [] ++ [(name wnB 0, n2.length)]
theorem sp {i : Nat} (h : pk wnB i = 32) : skip wnB i = skip wnB (i + 1) := by
  rw [skip, if_neg (by rw [h]; decide), if_pos (.inl h)]
theorem se {i : Nat} (h0 : pk wnB i ≠ 35) (h : ¬ (pk wnB i = 32 ∨ pk wnB i = 9 ∨ pk wnB i = 10)) : skip wnB i = i := skip_end h0 h
theorem k0 : skip wnB 0 = 0 := se (by decide) (by decide)
theorem k4 : skip wnB 4 = 5 := by rw [sp (by decide)]; exact se (by decide) (by decide)
theorem k10 : skip wnB 10 = 10 := se (by decide) (by decide)
theorem k2 : skip wnB 2 = 3 := by rw [sp (by decide)]; exact se (by decide) (by decide)
theorem k11 : skip wnB 11 = 12 := by rw [sp (by decide)]; exact se (by decide) (by decide)
theorem k12 : skip wnB 12 = 12 := se (by decide) (by decide)
theorem k14 : skip wnB 14 = 15 := by rw [sp (by decide)]; exact se (by decide) (by decide)
theorem k15 : skip wnB 15 = 15 := se (by decide) (by decide)
theorem k17 : skip wnB 17 = 17 := se (by decide) (by decide)
theorem k18 : skip wnB 18 = 19 := by rw [sp (by decide)]; exact se (by decide) (by decide)
theorem k19 : skip wnB 19 = 19 := se (by decide) (by decide)
theorem k20 : skip wnB 20 = 21 := by rw [sp (by decide)]; exact se (by decide) (by decide)
theorem k21 : skip wnB 21 = 21 := se (by decide) (by decide)
theorem k26 : skip wnB 26 = 26 := se (by decide) (by decide)
theorem k27 : skip wnB 27 = 28 := by rw [sp (by decide)]; exact se (by decide) (by decide)
theorem k28 : skip wnB 28 = 28 := se (by decide) (by decide)
theorem k29 : skip wnB 29 = 30 := by rw [sp (by decide)]; exact se (by decide) (by decide)
theorem k30 : skip wnB 30 = 30 := se (by decide) (by decide)
theorem k33 : skip wnB 33 = 34 := by rw [sp (by decide)]; exact se (by decide) (by decide)
theorem k34 : skip wnB 34 = 34 := se (by decide) (by decide)
theorem k35 : skip wnB 35 = 35 := se (by decide) (by decide)
theorem k38 : skip wnB 38 = 38 := se (by decide) (by decide)
theorem k39 : skip wnB 39 = 39 := se (by decide) (by decide)
theorem k40 : skip wnB 40 = 41 := by rw [sp (by decide)]; exact se (by decide) (by decide)
theorem k41 : skip wnB 41 = 41 := se (by decide) (by decide)
theorem k42 : skip wnB 42 = 42 := se (by decide) (by decide)
theorem low1 : wend wnB 1 = 2 := by rw [wend_step (by decide), wend_end (by decide)]
theorem low13 : wend wnB 13 = 14 := by rw [wend_step (by decide), wend_end (by decide)]
theorem low16 : wend wnB 16 = 17 := by rw [wend_step (by decide), wend_end (by decide)]

theorem d_expr : R wnB [] (.expr []) 0 4 [] (.ok n2.length 10 n3) := by
  have hset : R wnB [] .atom 0 5 [] (.ok 0 10 n1) := by
    refine .set (by decide) (by decide) ?_
    refine .setTwo (a := 97) (j := 7) (b := 122) (k := 9) (by decide) (by decide) (by decide) (by decide) (by decide) ?_
    exact .setEnd (by decide)
  have hend : R wnB [] (.seq ([] ++ [0])) 0 10 n1 (.ok n1.length (skip wnB 10) (n1 ++ [mk n1 113 [] false ([] ++ [0])])) := .seqEnd (by rw [k10]; decide) (by simp)
  rw [k10] at hend
  have hseq : R wnB [] (.seq []) 0 4 [] (.ok n1.length 10 n2) := .seqItem (n := 0) (j := 10) (T' := n1) (by rw [k4]; decide) (by rw [k4]; exact hset) (by rw [k10]; decide) (by rw [k10]; exact hend)
  have h : R wnB [] (.expr []) 0 4 [] (.ok n2.length (skip wnB 10) (n2 ++ [mk n2 99 [] false ([] ++ [n1.length])])) := .exprEnd hseq (by rw [k10]; decide)
  rw [k10] at h
  exact h

theorem nm0 : name wnB 0 = ⟨#[108]⟩ := by unfold name; rw [low1]; decide
theorem nm12 : name wnB 12 = ⟨#[108]⟩ := by unfold name; rw [low13]; decide
theorem nm15 : name wnB 15 = ⟨#[108]⟩ := by unfold name; rw [low16]; decide
theorem look (x : ByteArray) (h : x = ⟨#[108]⟩) : lookup wnE x = some n2.length := by
  subst h
  unfold wnE
  rw [nm0]
  decide
/-- The first rule: letters. -/
theorem r1_expr : R wnB wnE (.expr []) 0 12 n3 (.ok n5.length 19 n6) := by
  have hend : R wnB wnE (.seq (([] ++ [n2.length]) ++ [n3.length])) 0 18 n4 (.ok n4.length (skip wnB 18) (n4 ++ [mk n4 113 [] false (([] ++ [n2.length]) ++ [n3.length])])) := .seqEnd (by rw [k18]; decide) (by simp)
  rw [k18] at hend
  have ha2 : R wnB wnE .atom 0 15 n3 (.ok n2.length (wend wnB (15 + 1)) n3) := .name (by decide) (by rw [low16]; decide) (look _ nm15)
  rw [low16] at ha2
  have h2 : R wnB wnE (.seq ([] ++ [n2.length])) 0 15 n3 (.ok n4.length 19 n5) := .seqRep (n := n2.length) (j := 17) (T' := n3) (by rw [k15]; decide) (by rw [k15]; exact ha2) (by rw [k17]; decide) (by rw [k17]; exact hend)
  have ha1 : R wnB wnE .atom 0 12 n3 (.ok n2.length (wend wnB (12 + 1)) n3) := .name (by decide) (by rw [low13]; decide) (look _ nm12)
  rw [low13] at ha1
  have hseq : R wnB wnE (.seq []) 0 12 n3 (.ok n4.length 19 n5) := .seqItem (n := n2.length) (j := 14) (T' := n3) (by rw [k12]; decide) (by rw [k12]; exact ha1) (by rw [k14]; decide) (by rw [k14]; exact h2)
  have h : R wnB wnE (.expr []) 0 12 n3 (.ok n5.length (skip wnB 19) (n5 ++ [mk n5 99 [] false ([] ++ [n4.length])])) := .exprEnd hseq (by rw [k19]; decide)
  rw [k19] at h
  exact h
/-- The second: digits. -/
theorem r2_expr : R wnB wnE (.expr []) 0 21 n6 (.ok n9.length 28 n10) := by
  have hset : R wnB wnE .atom 0 21 n6 (.ok n6.length 26 n7) := by
    refine .set (by decide) (by decide) ?_
    refine .setTwo (a := 48) (j := 23) (b := 57) (k := 25) (by decide) (by decide) (by decide) (by decide) (by decide) ?_
    exact .setEnd (by decide)
  have hend : R wnB wnE (.seq ([] ++ [n7.length])) 0 27 n8 (.ok n8.length (skip wnB 27) (n8 ++ [mk n8 113 [] false ([] ++ [n7.length])])) := .seqEnd (by rw [k27]; decide) (by simp)
  rw [k27] at hend
  have hseq : R wnB wnE (.seq []) 0 21 n6 (.ok n8.length 28 n9) := .seqRep (n := n6.length) (j := 26) (T' := n7) (by rw [k21]; decide) (by rw [k21]; exact hset) (by rw [k26]; decide) (by rw [k26]; exact hend)
  have h : R wnB wnE (.expr []) 0 21 n6 (.ok n9.length (skip wnB 28) (n9 ++ [mk n9 99 [] false ([] ++ [n8.length])])) := .exprEnd hseq (by rw [k28]; decide)
  rw [k28] at h
  exact h
/-- The third: blanks. -/
theorem r3_expr : R wnB wnE (.expr []) 0 30 n10 (.ok n18.length 41 wnT) := by
  have hq1 : R wnB wnE .atom 0 30 n10 (.ok (n10.length + 1) 33 n12) := .quote (by decide) (.quoteEnd (x := 32) (j := 32) (by decide) (by decide))
  have hq2 : R wnB wnE .atom 1 35 n12 (.ok (n12.length + 1) 38 n14) := .quote (by decide) (.quoteEnd (x := 32) (j := 37) (by decide) (by decide))
  have he2 : R wnB wnE (.seq ([] ++ [n12.length + 1])) 1 38 n14 (.ok n14.length (skip wnB 38) (n14 ++ [mk n14 113 [] false ([] ++ [n12.length + 1])])) := .seqEnd (by rw [k38]; decide) (by simp)
  rw [k38] at he2
  have hs2 : R wnB wnE (.seq []) 1 35 n12 (.ok n14.length 38 n15) := .seqItem (n := n12.length + 1) (j := 38) (T' := n14) (by rw [k35]; decide) (by rw [k35]; exact hq2) (by rw [k38]; decide) (by rw [k38]; exact he2)
  have hx2 : R wnB wnE (.expr []) 1 35 n12 (.ok n15.length (skip wnB 38) (n15 ++ [mk n15 99 [] false ([] ++ [n14.length])])) := .exprEnd hs2 (by rw [k38]; decide)
  rw [k38] at hx2
  have hp : R wnB wnE .atom 0 34 n12 (.ok n15.length (skip wnB 38 + 1) n16) := .paren (by decide) (by decide) hx2 (by rw [k38]; decide)
  rw [k38] at hp
  have hend : R wnB wnE (.seq (([] ++ [n10.length + 1]) ++ [n16.length])) 0 40 n17 (.ok n17.length (skip wnB 40) (n17 ++ [mk n17 113 [] false (([] ++ [n10.length + 1]) ++ [n16.length])])) := .seqEnd (by rw [k40]; decide) (by simp)
  rw [k40] at hend
  have h2 : R wnB wnE (.seq ([] ++ [n10.length + 1])) 0 34 n12 (.ok n17.length 41 n18) := .seqRep (n := n15.length) (j := 39) (T' := n16) (by rw [k34]; decide) (by rw [k34]; exact hp) (by rw [k39]; decide) (by rw [k39]; exact hend)
  have hseq : R wnB wnE (.seq []) 0 30 n10 (.ok n17.length 41 n18) := .seqItem (n := n10.length + 1) (j := 33) (T' := n12) (by rw [k30]; decide) (by rw [k30]; exact hq1) (by rw [k33]; decide) (by rw [k33]; exact h2)
  have h : R wnB wnE (.expr []) 0 30 n10 (.ok n18.length (skip wnB 41) (n18 ++ [mk n18 99 [] false ([] ++ [n17.length])])) := .exprEnd hseq (by rw [k41]; decide)
  rw [k41] at h
  exact h
def wnQ : List Nat := ([] ++ [n5.length]) ++ [n9.length] ++ [n18.length]
theorem wn_src : Src wnB 0 [] [] [] (.ok wnQ wnT) := by
  have hS0 : Stm wnB [] (skip wnB 0) [] (.defn (name wnB 0) n2.length (skip wnB 10 + 1) n3) := by
    rw [k0]
    exact .defn ⟨by decide, by rw [low1]; decide, by rw [low1, k2]; decide⟩ (by decide) (by rw [low1, k2]; exact d_expr) (by rw [k10]; decide)
  rw [k10] at hS0
  have hS1 : Stm wnB wnE (skip wnB 11) n3 (.rule n5.length (skip wnB 19 + 1) n6) := by
    rw [k11]
    exact .rule (fun h => absurd h.2.2 (by rw [low13, k14]; decide)) r1_expr (by rw [k19]; decide)
  rw [k19] at hS1
  have hS2 : Stm wnB wnE (skip wnB 20) n6 (.rule n9.length (skip wnB 28 + 1) n10) := by
    rw [k20]
    exact .rule (fun h => absurd h.1 (by decide)) r2_expr (by rw [k28]; decide)
  rw [k28] at hS2
  have hS3 : Stm wnB wnE (skip wnB 29) n10 (.rule n18.length (skip wnB 41 + 1) wnT) := by
    rw [k29]
    exact .rule (fun h => absurd h.1 (by decide)) r3_expr (by rw [k41]; decide)
  rw [k41] at hS3
  exact .defn (by rw [k0]; decide) hS0 (.rule (by rw [k11]; decide) hS1 (.rule (by rw [k20]; decide) hS2 (.rule (by rw [k29]; decide) hS3 (.done (by rw [k42]; decide)))))
theorem wn_size : sizeOf wnT wnQ = 5 := by decide


/-- A set of runes from lo to hi. -/
theorem one_iff {x : PNode} {lo hi : Int} (h : ∀ c, inV x c = true ↔ lo ≤ c ∧ c ≤ hi) (u : List Int) : Lang.plus (Lang.one x) u ↔ u ≠ [] ∧ ∀ c ∈ u, lo ≤ c ∧ c ≤ hi := by
  rw [Lang.plus_one_iff]
  simp only [h]
theorem inV_rng (T : List PNode) (lo hi : Nat) (c : Int) (_hlo : lo ≤ hi) (hhi : hi < 55296) : inV (mk T 115 ([] ++ [(lo, hi)]) false []) c = true ↔ (lo : Int) ≤ c ∧ c ≤ (hi : Int) := by
  simp [inV, mk, runeB, within]
  omega
theorem one_same {x y : PNode} (h : ∀ c, inV x c = inV y c) : Lang.one x = Lang.one y := by
  apply Lang.ext
  intro u
  unfold Lang.one
  simp only [h]
theorem wn_l0 (hT : WF wnT) (u : List Int) : lang wnT n5.length u ↔ u ≠ [] ∧ ∀ c ∈ u, (97 : Int) ≤ c ∧ c ≤ 122 := by
  have h5 : wnT[n5.length]? = some (mk n5 99 [] false ([] ++ [n4.length])) := rfl
  have h4 : wnT[n4.length]? = some (mk n4 113 [] false (([] ++ [n2.length]) ++ [n3.length])) := rfl
  have h3 : wnT[n3.length]? = some (mk n3 42 [] false [n2.length]) := rfl
  have h2 : wnT[n2.length]? = some (mk n2 99 [] false ([] ++ [n1.length])) := rfl
  have h1 : wnT[n1.length]? = some (mk n1 113 [] false ([] ++ [0])) := rfl
  have h0 : wnT[0]? = some (mk [] 115 ([] ++ [(97, 122)]) false []) := rfl
  have hA : lang wnT n2.length = Lang.one (mk [] 115 ([] ++ [(97, 122)]) false []) := by
    rw [lang_lone hT h2 (by decide) (p := n1.length) rfl, lang_lone hT h1 (by decide) (p := 0) rfl, lang_set hT h0 (by decide)]
  rw [lang_lone hT h5 (by decide) (p := n4.length) rfl, lang_seq hT h4 (by decide)]
  have hm : (mk n4 113 [] false (([] ++ [n2.length]) ++ [n3.length])).parts.map (lang wnT) = [lang wnT n2.length, lang wnT n3.length] := rfl
  rw [hm, lang_rep hT h3 (by decide) (p := n2.length) rfl, hA]
  have hs : Lang.seq [Lang.one (mk [] 115 ([] ++ [(97, 122)]) false []), Lang.rep (mk n3 42 [] false [n2.length]).kind (Lang.one (mk [] 115 ([] ++ [(97, 122)]) false []))] = Lang.plus (Lang.one (mk [] 115 ([] ++ [(97, 122)]) false [])) := by
    show Lang.cat _ (Lang.cat _ Lang.eps) = Lang.cat _ _
    rw [Lang.cat_eps]
    rfl
  rw [hs]
  exact one_iff (fun c => inV_rng _ 97 122 c (by omega) (by omega)) u
theorem wn_l1 (hT : WF wnT) (u : List Int) : lang wnT n9.length u ↔ u ≠ [] ∧ ∀ c ∈ u, (48 : Int) ≤ c ∧ c ≤ 57 := by
  have h9 : wnT[n9.length]? = some (mk n9 99 [] false ([] ++ [n8.length])) := rfl
  have h8 : wnT[n8.length]? = some (mk n8 113 [] false ([] ++ [n7.length])) := rfl
  have h7 : wnT[n7.length]? = some (mk n7 43 [] false [n6.length]) := rfl
  have h6 : wnT[n6.length]? = some (mk n6 115 ([] ++ [(48, 57)]) false []) := rfl
  rw [lang_lone hT h9 (by decide) (p := n8.length) rfl, lang_lone hT h8 (by decide) (p := n7.length) rfl, lang_rep hT h7 (by decide) (p := n6.length) rfl, lang_set hT h6 (by decide)]
  exact one_iff (fun c => inV_rng _ 48 57 c (by omega) (by omega)) u
theorem wn_l2 (hT : WF wnT) (u : List Int) : lang wnT n18.length u ↔ u ≠ [] ∧ ∀ c ∈ u, (32 : Int) ≤ c ∧ c ≤ 32 := by
  have h18 : wnT[n18.length]? = some (mk n18 99 [] false ([] ++ [n17.length])) := rfl
  have h17 : wnT[n17.length]? = some (mk n17 113 [] false (([] ++ [n10.length + 1]) ++ [n16.length])) := rfl
  have h16 : wnT[n16.length]? = some (mk n16 42 [] false [n15.length]) := rfl
  have h15 : wnT[n15.length]? = some (mk n15 99 [] false ([] ++ [n14.length])) := rfl
  have h14 : wnT[n14.length]? = some (mk n14 113 [] false ([] ++ [n12.length + 1])) := rfl
  have h13 : wnT[n12.length + 1]? = some (mk n13 113 [] false ([] ++ [n12.length])) := rfl
  have h12 : wnT[n12.length]? = some (mk n12 115 [(32, 32)] false []) := rfl
  have h11 : wnT[n10.length + 1]? = some (mk n11 113 [] false ([] ++ [n10.length])) := rfl
  have h10 : wnT[n10.length]? = some (mk n10 115 [(32, 32)] false []) := rfl
  have hA : lang wnT (n10.length + 1) = Lang.one (mk n10 115 [(32, 32)] false []) := by
    rw [lang_lone hT h11 (by decide) (p := n10.length) rfl, lang_set hT h10 (by decide)]
  have hB : lang wnT n15.length = Lang.one (mk n10 115 [(32, 32)] false []) := by
    rw [lang_lone hT h15 (by decide) (p := n14.length) rfl, lang_lone hT h14 (by decide) (p := n12.length + 1) rfl, lang_lone hT h13 (by decide) (p := n12.length) rfl, lang_set hT h12 (by decide)]
    exact one_same (fun c => rfl)
  rw [lang_lone hT h18 (by decide) (p := n17.length) rfl, lang_seq hT h17 (by decide)]
  have hm : (mk n17 113 [] false (([] ++ [n10.length + 1]) ++ [n16.length])).parts.map (lang wnT) = [lang wnT (n10.length + 1), lang wnT n16.length] := rfl
  rw [hm, lang_rep hT h16 (by decide) (p := n15.length) rfl, hA, hB]
  have hs : Lang.seq [Lang.one (mk n10 115 [(32, 32)] false []), Lang.rep (mk n16 42 [] false [n15.length]).kind (Lang.one (mk n10 115 [(32, 32)] false []))] = Lang.plus (Lang.one (mk n10 115 [(32, 32)] false [])) := by
    show Lang.cat _ (Lang.cat _ Lang.eps) = Lang.cat _ _
    rw [Lang.cat_eps]
    rfl
  rw [hs]
  exact one_iff (fun c => inV_rng _ 32 32 c (by omega) (by omega)) u

end G
end Go.Proofs.YtpgcidpghmoibaaGreatDoor

namespace Go.Proofs.YtpgcidpghmoibaaGreatDoor
namespace U
/-- Where unit k ends. -/
def endU (s : ByteArray) (k : Nat) : Nat := match (units s)[k + 1]? with | some y => y.2 | none => s.size
theorem rest_at (s : ByteArray) : ∀ (k p : Nat) (x : Nat × Nat), p ≤ s.size → (rest s p)[k]? = some x → p ≤ x.2 ∧ x.2 < s.size ∧ x.1 = (Utf8.decode s x.2).1 ∧ (match (rest s p)[k + 1]? with | some y => y.2 | none => s.size) = x.2 + (Utf8.decode s x.2).2
  | k, p, x, hp, h => by
    have hlt : p < s.size := by
      rcases Nat.lt_or_ge p s.size with e | e
      · exact e
      · rw [rest_end s p e] at h; simp at h
    have hw := width s p hlt
    rw [rest_step s p hlt] at h ⊢
    cases k with
    | zero =>
      simp only [List.getElem?_cons_zero, Option.some.injEq] at h
      subst h
      refine ⟨Nat.le_refl _, hlt, rfl, ?_⟩
      simp only [List.getElem?_cons_succ]
      rcases Nat.lt_or_ge (p + (Utf8.decode s p).2) s.size with e | e
      · rw [rest_step s _ e]; rfl
      · rw [rest_end s _ e]
        show s.size = _
        omega
    | succ k =>
      simp only [List.getElem?_cons_succ] at h ⊢
      obtain ⟨h1, h2, h3, h4⟩ := rest_at s k _ x hw.2 h
      exact ⟨by omega, h2, h3, h4⟩
theorem unit_at (s : ByteArray) (k : Nat) (x : Nat × Nat) (h : (units s)[k]? = some x) : x.2 < s.size ∧ x.1 = (Utf8.decode s x.2).1 ∧ endU s k = x.2 + (Utf8.decode s x.2).2 ∧ (k = 0 → x.2 = 0) := by
  obtain ⟨_, h2, h3, h4⟩ := rest_at s k 0 x (Nat.zero_le _) h
  refine ⟨h2, h3, h4, fun hk => ?_⟩
  subst hk
  unfold units at h
  rw [rest_step s 0 (by omega)] at h
  simp only [List.getElem?_cons_zero, Option.some.injEq] at h
  rw [← h]
end U
end Go.Proofs.YtpgcidpghmoibaaGreatDoor

namespace Go.Proofs.YtpgcidpghmoibaaGreatDoor
namespace U
/-- A byte that is no rune's own is no part of a small rune. -/
theorem small (s : ByteArray) (p : Nat) (h : (Utf8.decode s p).1 < 128) : at' s p < 128 := by
  rcases Nat.lt_or_ge (at' s p) 128 with e | e
  · exact e
  · exfalso
    have hl := at_lt s p
    rcases Nat.lt_or_ge (at' s p) 192 with e2 | e2
    · rw [decBad s p e (.inl e2)] at h; simp at h
    · rcases Nat.lt_or_ge (at' s p) 224 with e3 | e3
      · rw [dec2 s p e2 e3] at h
        split at h
        · rename_i c; simp at h; omega
        · simp at h
      · rcases Nat.lt_or_ge (at' s p) 240 with e4 | e4
        · rw [dec3 s p e3 e4] at h
          split at h
          · rename_i c; simp at h; omega
          · simp at h
        · rcases Nat.lt_or_ge (at' s p) 248 with e5 | e5
          · rw [dec4 s p e4 e5] at h
            split at h
            · rename_i c; simp at h; omega
            · simp at h
          · rw [decBad s p e (.inr e5)] at h; simp at h
theorem at_ext (s : ByteArray) (p w k : Nat) (hk : k < w) (hw : p + w ≤ s.size) : at' (s.extract p (p + w)) k = at' s (p + k) := by
  have hz : (s.extract p (p + w)).size = w := by rw [ByteArray.size_extract]; omega
  rw [← at_get _ k (by omega), ← at_get s (p + k) (by omega)]
  congr 1
  show (s.extract p (p + w)).data[k]'(by have : (s.extract p (p + w)).data.size = w := hz; omega) = s.data[p + k]'(by have : s.data.size = s.size := rfl; omega)
  simp [ByteArray.data_extract]
/-- The bytes of one unit are one unit. -/
theorem one_unit (s : ByteArray) (p : Nat) (h : p < s.size) : (units (s.extract p (p + (Utf8.decode s p).2))).length = 1 := by
  obtain ⟨w1, w2⟩ := width s p h
  obtain ⟨w, hw⟩ : ∃ w, (Utf8.decode s p).2 = w := ⟨_, rfl⟩
  rw [hw] at w1 w2 ⊢
  have hz : (s.extract p (p + w)).size = w := by rw [ByteArray.size_extract]; omega
  have key : (Utf8.decode (s.extract p (p + w)) 0).2 = w → (units (s.extract p (p + w))).length = 1 := fun hk => by
    unfold units
    rw [rest_step _ 0 (by omega), hk, Nat.zero_add, rest_end _ w (by omega)]
    rfl
  apply key
  have hw0 := width (s.extract p (p + w)) 0 (by omega)
  rcases Nat.lt_or_ge w 2 with e | e
  · omega
  · have h0 := at_ext s p w 0 (by omega) w2
    have h1 := at_ext s p w 1 (by omega) w2
    rw [Nat.add_zero] at h0
    have t : ∀ k, k < w → tl (s.extract p (p + w)) k = tl s (p + k) := fun k hk => by
      unfold tl
      rw [at_ext s p w k hk w2, hz]
      simp [hk, show p + k < s.size by omega]
    have hl := at_lt s p
    rcases Nat.lt_or_ge (at' s p) 128 with a | a
    · rw [dec1 s p a] at hw; simp at hw; omega
    · rcases Nat.lt_or_ge (at' s p) 192 with e2 | e2
      · rw [decBad s p a (.inl e2)] at hw; simp at hw; omega
      · rcases Nat.lt_or_ge (at' s p) 224 with e3 | e3
        · rw [dec2 s p e2 e3] at hw
          split at hw
          · rename_i c
            simp at hw
            subst hw
            rw [dec2 _ 0 (by omega) (by omega), h0, Nat.zero_add, h1, t 1 (by omega), if_pos c]
          · simp at hw; omega
        · rcases Nat.lt_or_ge (at' s p) 240 with e4 | e4
          · rw [dec3 s p e3 e4] at hw
            split at hw
            · rename_i c
              simp at hw
              subst hw
              have h2 := at_ext s p 3 2 (by omega) w2
              rw [dec3 _ 0 (by omega) (by omega), h0, Nat.zero_add, Nat.zero_add, h1, h2, t 1 (by omega), t 2 (by omega), if_pos c]
            · simp at hw; omega
          · rcases Nat.lt_or_ge (at' s p) 248 with e5 | e5
            · rw [dec4 s p e4 e5] at hw
              split at hw
              · rename_i c
                simp at hw
                subst hw
                have h2 := at_ext s p 4 2 (by omega) w2
                have h3 := at_ext s p 4 3 (by omega) w2
                rw [dec4 _ 0 (by omega) (by omega), h0, Nat.zero_add, Nat.zero_add, Nat.zero_add, h1, h2, h3, t 1 (by omega), t 2 (by omega), t 3 (by omega), if_pos c]
              · simp at hw; omega
            · rw [decBad s p a (.inr e5)] at hw; simp at hw; omega
end U
namespace G
/-- The kind of a rune or a byte. -/
def kindN (c : Int) : Int := if 97 ≤ c ∧ c ≤ 122 then 0 else if 48 ≤ c ∧ c ≤ 57 then 1 else if c = 32 then 2 else -1

theorem wn_lang (hT : WF wnT) {j q : Nat} (hq : wnQ[j]? = some q) (u : List Int) : lang wnT q u ↔ u ≠ [] ∧ ∀ c ∈ u, kindN c = (j : Int) := by
  have h3 : j = 0 ∧ q = n5.length ∨ j = 1 ∧ q = n9.length ∨ j = 2 ∧ q = n18.length := by
    match j, hq with
    | 0, hq => exact .inl ⟨rfl, by have : some n5.length = some q := hq; simpa using this.symm⟩
    | 1, hq => exact .inr (.inl ⟨rfl, by have : some n9.length = some q := hq; simpa using this.symm⟩)
    | 2, hq => exact .inr (.inr ⟨rfl, by have : some n18.length = some q := hq; simpa using this.symm⟩)
    | j + 3, hq => have : (none : Option Nat) = some q := hq; cases this
  rcases h3 with ⟨rfl, rfl⟩ | ⟨rfl, rfl⟩ | ⟨rfl, rfl⟩
  · rw [wn_l0 hT]
    refine and_congr_right fun _ => forall_congr' fun c => forall_congr' fun _ => ?_
    unfold kindN
    constructor
    · intro h; rw [if_pos h]; rfl
    · intro h
      split at h
      · assumption
      · split at h
        · simp at h
        · split at h <;> simp at h
  · rw [wn_l1 hT]
    refine and_congr_right fun _ => forall_congr' fun c => forall_congr' fun _ => ?_
    unfold kindN
    constructor
    · intro h; rw [if_neg (by omega), if_pos h]; rfl
    · intro h
      split at h
      · simp at h
      · split at h
        · assumption
        · split at h <;> simp at h
  · rw [wn_l2 hT]
    refine and_congr_right fun _ => forall_congr' fun c => forall_congr' fun _ => ?_
    unfold kindN
    constructor
    · intro h; rw [if_neg (by omega), if_neg (by omega), if_pos (by omega)]; rfl
    · intro h
      split at h
      · simp at h
      · split at h
        · simp at h
        · split at h
          · omega
          · simp at h
theorem kindN_or (c : Int) : kindN c = -1 ∨ ∃ j q : Nat, kindN c = (j : Int) ∧ wnQ[j]? = some q := by
  unfold kindN
  split
  · exact .inr ⟨0, n5.length, rfl, rfl⟩
  · split
    · exact .inr ⟨1, n9.length, rfl, rfl⟩
    · split
      · exact .inr ⟨2, n18.length, rfl, rfl⟩
      · exact .inl rfl
/-- The longest match is the run of the first unit's kind. -/
theorem wn_long (hT : WF wnT) {c : Int} {u : List Int} {n : Nat} {r : Int} (h : Long wnT wnQ (c :: u) n r) : r = kindN c ∧ (r < 0 → n = 0) ∧ (0 ≤ r → 0 < n ∧ (∀ x ∈ (c :: u).take n, kindN x = r) ∧ ∀ y, (c :: u)[n]? = some y → kindN y ≠ r) := by
  rcases h with ⟨rfl, rfl, h3⟩ | ⟨h1, h2, j, q, rfl, h5, h6, h7, h8⟩
  · rcases kindN_or c with e | ⟨j, q, e1, e2⟩
    · exact ⟨e.symm, fun _ => rfl, fun h => by omega⟩
    · exfalso
      refine h3 q (List.mem_of_getElem? e2) 1 (by omega) (by simp) ((wn_lang hT e2 _).2 ⟨by simp, fun x hx => ?_⟩)
      have : x = c := by simpa using hx
      rw [this, e1]
  · obtain ⟨g1, g2⟩ := (wn_lang hT h5 _).1 h6
    have hc : c ∈ (c :: u).take n := by
      cases n with
      | zero => omega
      | succ n => simp
    refine ⟨(g2 c hc).symm, fun h => by omega, fun _ => ⟨h1, g2, fun y hy he => ?_⟩⟩
    have hn : n < (c :: u).length := (List.getElem?_eq_some_iff.1 hy).1
    refine h7 q (List.mem_of_getElem? h5) (n + 1) (by omega) (by omega) ((wn_lang hT h5 _).2 ⟨by simp, fun x hx => ?_⟩)
    rw [List.take_add_one, hy] at hx
    rcases List.mem_append.1 hx with hx | hx
    · exact g2 x hx
    · have : x = y := by simpa using hx
      rw [this, he]

end G
end Go.Proofs.YtpgcidpghmoibaaGreatDoor

namespace Go.Proofs.YtpgcidpghmoibaaGreatDoor
namespace G

/-- The unit at a place: its rune and where it ends. -/
theorem unit_edge (s : ByteArray) {k : Nat} (hk : k < (us s).length) : ∃ r, (us s)[k]? = some r ∧ r = ((Utf8.decode s (edge s k)).1 : Int) ∧ edge s (k + 1) = edge s k + (Utf8.decode s (edge s k)).2 ∧ edge s k < s.size := by
  have hk' : k < (U.units s).length := by rw [us_len] at hk; exact hk
  have hx : (U.units s)[k]? = some (U.units s)[k] := List.getElem?_eq_getElem hk'
  generalize (U.units s)[k] = x at hx
  have he := edge_of hx
  obtain ⟨h1, h2, h3, _⟩ := U.unit_at s k x hx
  refine ⟨(x.1 : Int), by simp [us, hx], by rw [he, h2], ?_, by rw [he]; exact h1⟩
  rw [he]
  have : edge s (k + 1) = U.endU s k := by
    unfold U.endU
    cases hy : (U.units s)[k + 1]? with
    | some y => exact edge_of hy
    | none => exact edge_end s (k + 1) (by rw [us_len]; exact List.getElem?_eq_none_iff.1 hy)
  rw [this, h3]
theorem kindN_byte (s : ByteArray) (p : Nat) : kindN ((Utf8.decode s p).1 : Int) = kindN (U.at' s p : Int) := by
  rcases Nat.lt_or_ge (U.at' s p) 128 with e | e
  · rw [U.dec1 s p e]
  · have h1 : ¬ (Utf8.decode s p).1 < 128 := fun h => by have := U.small s p h; omega
    unfold kindN
    rw [if_neg (by omega), if_neg (by omega), if_neg (by omega), if_neg (by omega), if_neg (by omega), if_neg (by omega)]
theorem kindN_small {s : ByteArray} {p : Nat} (h : 0 ≤ kindN (U.at' s p : Int)) : Utf8.decode s p = (U.at' s p, 1) := by
  apply U.dec1
  unfold kindN at h
  split at h
  · omega
  · split at h
    · omega
    · split at h <;> omega
/-- What a segment is. -/
structure WSeg (s : ByteArray) (x : Seg) : Prop where
  rule : x.r = kindN (U.at' s x.f : Int)
  lt : x.f < x.t
  le : x.t ≤ s.size
  run : 0 ≤ x.r → (∀ p, x.f ≤ p → p < x.t → kindN (U.at' s p : Int) = x.r) ∧ (x.t < s.size → kindN (U.at' s x.t : Int) ≠ x.r)
  one : x.r < 0 → (U.units (s.extract x.f x.t)).length = 1
theorem cut_words (hT : WF wnT) {s : ByteArray} {l : List Seg} (h : CutR wnT wnQ s 0 l) : ∀ x ∈ l, WSeg s x := by
  intro x hx
  obtain ⟨k0, n, r, hk, hl, rfl⟩ := h.seg x hx
  obtain ⟨c, hc, hce, hnext, hlt⟩ := unit_edge s hk
  have hd : (us s).drop k0 = c :: (us s).drop (k0 + 1) := by
    rw [List.drop_eq_getElem_cons hk]
    congr 1
    have := List.getElem?_eq_getElem hk
    rw [this] at hc
    simpa using hc
  have hle := hl.le
  rw [List.length_drop] at hle
  rw [hd] at hl
  obtain ⟨h1, h2, h3⟩ := wn_long hT hl
  have hr : r = kindN (U.at' s (edge s k0) : Int) := by rw [h1, hce]; exact kindN_byte s _
  refine ⟨hr, edge_strict s (by omega) (by omega), edge_size s _, fun h0 => ?_, fun h0 => ?_⟩
  · obtain ⟨n0, g1, g2⟩ := h3 h0
    rw [show max n 1 = n by omega]
    -- units of a run are bytes
    have step : ∀ m, m ≤ n → edge s (k0 + m) = edge s k0 + m ∧ ∀ p, edge s k0 ≤ p → p < edge s k0 + m → kindN (U.at' s p : Int) = r := by
      intro m
      induction m with
      | zero => intro _; exact ⟨rfl, fun p h1 h2 => by omega⟩
      | succ m ih =>
        intro hm
        obtain ⟨e1, e2⟩ := ih (by omega)
        obtain ⟨c', hc', hce', hnext', _⟩ := unit_edge s (k := k0 + m) (by omega)
        have hk' : kindN c' = r := g1 c' (by
          have hg : ((c :: (us s).drop (k0 + 1)).take n)[m]? = some c' := by
            rw [← hd, List.getElem?_take, if_pos (by omega), List.getElem?_drop]
            exact hc'
          exact List.mem_of_getElem? hg)
        have hkb : kindN (U.at' s (edge s (k0 + m)) : Int) = r := by rw [← kindN_byte, ← hce']; exact hk'
        rw [kindN_small (by rw [hkb]; exact h0)] at hnext'
        rw [e1] at hnext' hkb
        refine ⟨by rw [show k0 + (m + 1) = k0 + m + 1 by omega, hnext']; omega, fun p q1 q2 => ?_⟩
        rcases Nat.lt_or_ge p (edge s k0 + m) with e | e
        · exact e2 p q1 e
        · obtain rfl : p = edge s k0 + m := by omega
          exact hkb
    obtain ⟨e1, e2⟩ := step n (Nat.le_refl _)
    refine ⟨fun p q1 q2 => e2 p q1 (by rw [← e1]; exact q2), fun hz he => ?_⟩
    have hlast : k0 + n < (us s).length := by
      rcases Nat.lt_or_ge (k0 + n) (us s).length with e | e
      · exact e
      · have h9 : edge s (k0 + n) < s.size := hz
        rw [edge_end s _ e] at h9
        omega
    obtain ⟨y, hy, hye, _, _⟩ := unit_edge s hlast
    refine g2 y ?_ (by rw [hye, kindN_byte]; exact he)
    rw [← hd, List.getElem?_drop]
    exact hy
  · have hn0 : n = 0 := h2 h0
    subst hn0
    show (U.units (s.extract (edge s k0) (edge s (k0 + max 0 1)))).length = 1
    rw [show k0 + max 0 1 = k0 + 1 by omega, hnext]
    exact U.one_unit s _ hlt

end G
end Go.Proofs.YtpgcidpghmoibaaGreatDoor
