/-
  EXPRS IN TWO WAYS, read without the program: the atoms and the exprs that the statement Alike makes, written in two ways, match the same; rules of them, one behind the other, with blanks or with comments between, are read to the end. Nothing of the program is run here. Conditions stand at each fact.
-/
import Derived.Test.YtpgcidpghmoibaaGreatDoorK26
namespace Go.Proofs.YtpgcidpghmoibaaGreatDoor
namespace G
def ch (c : Nat) : Lang := fun u => u = [(c : Int)]
def nch (c : Nat) : Lang := Lang.one (G.mk [] 115 [(c, c)] true [])
def dotL : Lang := Lang.one (G.mk [] 115 [] true [])
theorem one_eq {x y : PNode} (h : ∀ c, inV x c = inV y c) : Lang.one x = Lang.one y := by
  apply Lang.ext
  intro u
  unfold Lang.one
  simp only [h]
theorem one_ch (T : List PNode) (c : Nat) (h : c < 128) : Lang.one (G.mk T 115 [(c, c)] false []) = ch c := by
  apply Lang.ext
  intro u
  simp only [Lang.one, ch, inV, G.mk, runeB, within, List.any_cons, List.any_nil, Bool.or_false]
  constructor
  · rintro ⟨x, rfl, hx⟩
    simp at hx
    rw [show x = (c : Int) by omega]
  · rintro rfl
    refine ⟨_, rfl, ?_⟩
    simp
    omega
theorem one_ch2 (T : List PNode) (a b : Nat) (ha : a < 128) (hb : b < 128) : Lang.one (G.mk T 115 [(a, a), (b, b)] false []) = Lang.alt [ch a, ch b] := by
  apply Lang.ext
  intro u
  simp only [Lang.one, ch, inV, G.mk, runeB, within, List.any_cons, List.any_nil, Bool.or_false, Lang.alt, Lang.none, or_false]
  constructor
  · rintro ⟨x, rfl, hx⟩
    simp at hx
    rcases hx.2 with h | h
    · left; rw [show x = (a : Int) by omega]
    · right; rw [show x = (b : Int) by omega]
  · rintro (rfl | rfl)
    · refine ⟨_, rfl, ?_⟩
      simp
      omega
    · refine ⟨_, rfl, ?_⟩
      simp
      omega
theorem chr_asc {s : ByteArray} {a b : Int} {i : Nat} {x : UInt8} (h : pk s i = (x.toNat : Int)) (h1 : x.toNat < 128) (h2 : (x.toNat : Int) ≠ a ∧ (x.toNat : Int) ≠ b ∧ x.toNat ≠ 92) : chr s a b i = some (x.toNat, i + 1) := by
  have hl := pk_pos h
  have hx : U.at' s i = x.toNat := by rw [pk_lt hl] at h; omega
  unfold chr
  rw [if_neg (by omega), if_neg (by omega), if_pos (by unfold well; rw [if_pos (by omega)]), U.dec1 s i (by omega), hx]
theorem WF.leaf {T : List PNode} (hT : WF T) (rs : List (Nat × Nat)) (o : Bool) (h : ∀ r ∈ rs, r.1 ≤ 1114111 ∧ r.2 ≤ 1114111) : WF (T ++ [G.mk T 115 rs o []]) := hT.snoc 115 rs o [] (by simp) h (.inl ⟨rfl, rfl⟩)
theorem leaf_lang {T : List PNode} {rs : List (Nat × Nat)} {o : Bool} (hw : WF (T ++ [G.mk T 115 rs o []])) : lang (T ++ [G.mk T 115 rs o []]) T.length = Lang.one (G.mk T 115 rs o []) :=
  lang_set hw (by simp) rfl
theorem At.q1 (x : UInt8) (h1 : x.toNat < 128) (h2 : x.toNat ≠ 39 ∧ x.toNat ≠ 92) : At [39, x, 39] (ch x.toNat) 0 := by
  refine ⟨fun s i hp => by rw [hp.1]; rfl, ?_⟩
  intro s d i T hp _ hT
  obtain ⟨p0, p1, p2, _⟩ := hp
  have hc := chr_asc (a := 39) (b := 39) p1 h1 (by omega)
  have hw := hT.leaf [(x.toNat, x.toNat)] false (by simp; omega)
  have hw2 : WF ((T ++ [G.mk T 115 [(x.toNat, x.toNat)] false []]) ++ [G.mk (T ++ [G.mk T 115 [(x.toNat, x.toNat)] false []]) 113 [] false ([] ++ [T.length])]) := hw.snoc 113 [] false ([] ++ [T.length]) (by simp) (by simp) (.inr (.inl ⟨.inl rfl, by simp⟩))
  refine ⟨T.length + 1, [G.mk T 115 [(x.toNat, x.toNat)] false []] ++ [G.mk (T ++ [G.mk T 115 [(x.toNat, x.toNat)] false []]) 113 [] false ([] ++ [T.length])], ?_, ?_⟩
  · rw [← List.append_assoc]
    exact .quote p0 (.quoteEnd hc p2)
  · rw [← List.append_assoc]
    have hx : ((T ++ [G.mk T 115 [(x.toNat, x.toNat)] false []]) ++ [G.mk (T ++ [G.mk T 115 [(x.toNat, x.toNat)] false []]) 113 [] false ([] ++ [T.length])])[T.length + 1]? = some (G.mk (T ++ [G.mk T 115 [(x.toNat, x.toNat)] false []]) 113 [] false ([] ++ [T.length])) := by
      rw [List.getElem?_append_right (by simp)]; simp
    rw [lang_seq hw2 hx rfl]
    show Lang.seq [lang _ T.length] = _
    rw [Lang.seq_one, lang_append hw hw2 T.length (by simp), leaf_lang hw, one_ch T _ h1]
theorem At.q2 (x y : UInt8) (h1 : x.toNat < 128 ∧ y.toNat < 128) (h2 : x.toNat ≠ 39 ∧ x.toNat ≠ 92 ∧ y.toNat ≠ 39 ∧ y.toNat ≠ 92) : At [39, x, y, 39] (Lang.cat (ch x.toNat) (ch y.toNat)) 0 := by
  refine ⟨fun s i hp => by rw [hp.1]; rfl, ?_⟩
  intro s d i T hp _ hT
  obtain ⟨p0, p1, p2, p3, _⟩ := hp
  have hc := chr_asc (a := 39) (b := 39) p1 h1.1 (by omega)
  have hc2 := chr_asc (a := 39) (b := 39) p2 h1.2 (by omega)
  have hw := hT.leaf [(x.toNat, x.toNat)] false (by simp; omega)
  generalize hT1 : T ++ [G.mk T 115 [(x.toNat, x.toNat)] false []] = T1 at *
  have hl1 : T1.length = T.length + 1 := by rw [← hT1]; simp
  have hw1 := hw.leaf [(y.toNat, y.toNat)] false (by simp; omega)
  generalize hT2 : T1 ++ [G.mk T1 115 [(y.toNat, y.toNat)] false []] = T2 at *
  have hl2 : T2.length = T.length + 2 := by rw [← hT2]; simp; omega
  have hw2 : WF (T2 ++ [G.mk T2 113 [] false (([] ++ [T.length]) ++ [T1.length])]) := hw1.snoc 113 [] false _ (by simp; omega) (by simp) (.inr (.inl ⟨.inl rfl, by simp⟩))
  have hR : R s [] .atom d i T (.ok (T1.length + 1) (i + 1 + 1 + 1 + 1) (T2 ++ [G.mk T2 113 [] false (([] ++ [T.length]) ++ [T1.length])])) := by
    refine .quote p0 (.quoteMore hc (by rw [p2]; omega) ?_)
    rw [hT1]
    have := R.quoteEnd (s := s) (E := []) (ps := [] ++ [T.length]) (d := d) (T := T1) hc2 p3
    rw [hT2] at this
    exact this
  refine ⟨T1.length + 1, [G.mk T 115 [(x.toNat, x.toNat)] false []] ++ [G.mk T1 115 [(y.toNat, y.toNat)] false []] ++ [G.mk T2 113 [] false (([] ++ [T.length]) ++ [T1.length])], ?_, ?_⟩
  all_goals rw [← List.append_assoc, ← List.append_assoc, hT1, hT2]
  · exact hR
  · have hx : (T2 ++ [G.mk T2 113 [] false (([] ++ [T.length]) ++ [T1.length])])[T1.length + 1]? = some (G.mk T2 113 [] false (([] ++ [T.length]) ++ [T1.length])) := by
      rw [List.getElem?_append_right (by omega)]
      rw [show T1.length + 1 - T2.length = 0 by omega]
      rfl
    rw [lang_seq hw2 hx rfl]
    show Lang.seq [lang _ T.length, lang _ T1.length] = _
    have e1 : lang T1 T.length = ch x.toNat := by rw [← hT1] at hw ⊢; rw [leaf_lang hw, one_ch T _ h1.1]
    have e2 : lang T2 T1.length = ch y.toNat := by rw [← hT2] at hw1 ⊢; rw [leaf_lang hw1, one_ch T1 _ h1.2]
    have e3 : lang T2 T.length = lang T1 T.length := by rw [← hT2] at hw1 ⊢; exact lang_append hw hw1 _ (by omega)
    rw [lang_append hw1 hw2 _ (by omega), lang_append hw1 hw2 _ (by omega), e3, e1, e2]
    show Lang.cat _ (Lang.cat _ Lang.eps) = _
    rw [Lang.cat_eps]
theorem At.dot : At [46] dotL 0 := by
  refine ⟨fun s i hp => by rw [hp.1]; rfl, ?_⟩
  intro s d i T hp _ hT
  refine ⟨T.length, [G.mk T 115 [] true []], .dot hp.1, ?_⟩
  rw [leaf_lang (hT.leaf [] true (by simp))]
  exact one_eq fun _ => rfl
theorem not_is {s : ByteArray} {i : Nat} {x : UInt8} {c : Int} (h : pk s i = (x.toNat : Int)) (hc : (x.toNat : Int) ≠ c) : pk s i ≠ c := by rw [h]; exact hc
theorem At.s1 (x : UInt8) (h1 : 97 ≤ x.toNat ∧ x.toNat ≤ 122) : At [91, x, 93] (ch x.toNat) 0 := by
  refine ⟨fun s i hp => by rw [hp.1]; rfl, ?_⟩
  intro s d i T hp _ hT
  obtain ⟨p0, p1, p2, _⟩ := hp
  have hc := chr_asc (a := 93) (b := 45) p1 (by omega) (by omega)
  refine ⟨T.length, [G.mk T 115 [(x.toNat, x.toNat)] false []], .set p0 (not_is p1 (by omega)) (.setOne (not_is p1 (by omega)) hc (not_is p2 (by decide)) (.setEnd p2)), ?_⟩
  rw [leaf_lang (hT.leaf _ false (by simp; omega)), one_ch T _ (by omega)]
theorem At.s2 (x y : UInt8) (h1 : 97 ≤ x.toNat ∧ x.toNat ≤ 122) (h2 : 97 ≤ y.toNat ∧ y.toNat ≤ 122) : At [91, x, y, 93] (Lang.alt [ch x.toNat, ch y.toNat]) 0 := by
  refine ⟨fun s i hp => by rw [hp.1]; rfl, ?_⟩
  intro s d i T hp _ hT
  obtain ⟨p0, p1, p2, p3, _⟩ := hp
  have hc := chr_asc (a := 93) (b := 45) p1 (by omega) (by omega)
  have hd := chr_asc (a := 93) (b := 45) p2 (by omega) (by omega)
  refine ⟨T.length, [G.mk T 115 [(x.toNat, x.toNat), (y.toNat, y.toNat)] false []], .set p0 (not_is p1 (by omega)) (.setOne (not_is p1 (by omega)) hc (not_is p2 (by omega)) (.setOne (not_is p2 (by omega)) hd (not_is p3 (by decide)) (.setEnd p3))), ?_⟩
  rw [leaf_lang (hT.leaf _ false (by simp; omega)), one_ch2 T _ _ (by omega) (by omega)]
theorem At.sr (x : UInt8) (h1 : 97 ≤ x.toNat ∧ x.toNat ≤ 122) : At [91, x, 45, x, 93] (ch x.toNat) 0 := by
  refine ⟨fun s i hp => by rw [hp.1]; rfl, ?_⟩
  intro s d i T hp _ hT
  obtain ⟨p0, p1, p2, p3, p4, _⟩ := hp
  have hc := chr_asc (a := 93) (b := 45) p1 (by omega) (by omega)
  have hd := chr_asc (a := 93) (b := 45) p3 (by omega) (by omega)
  refine ⟨T.length, [G.mk T 115 [(x.toNat, x.toNat)] false []], .set p0 (not_is p1 (by omega)) (.setTwo (not_is p1 (by omega)) hc p2 hd (Nat.le_refl _) (.setEnd p4)), ?_⟩
  rw [leaf_lang (hT.leaf _ false (by simp; omega)), one_ch T _ (by omega)]
theorem At.n1 (x : UInt8) (h1 : 97 ≤ x.toNat ∧ x.toNat ≤ 122) : At [91, 94, x, 93] (nch x.toNat) 0 := by
  refine ⟨fun s i hp => by rw [hp.1]; rfl, ?_⟩
  intro s d i T hp _ hT
  obtain ⟨p0, p9, p1, p2, _⟩ := hp
  have hc := chr_asc (a := 93) (b := 45) p1 (by omega) (by omega)
  refine ⟨T.length, [G.mk T 115 [(x.toNat, x.toNat)] true []], .setNot p0 p9 (.setOne (not_is p1 (by omega)) hc (not_is p2 (by decide)) (.setEnd p2)), ?_⟩
  rw [leaf_lang (hT.leaf _ true (by simp; omega))]
  exact one_eq fun _ => rfl
theorem At.nr (x : UInt8) (h1 : 97 ≤ x.toNat ∧ x.toNat ≤ 122) : At [91, 94, x, 45, x, 93] (nch x.toNat) 0 := by
  refine ⟨fun s i hp => by rw [hp.1]; rfl, ?_⟩
  intro s d i T hp _ hT
  obtain ⟨p0, p9, p1, p2, p3, p4, _⟩ := hp
  have hc := chr_asc (a := 93) (b := 45) p1 (by omega) (by omega)
  have hd := chr_asc (a := 93) (b := 45) p3 (by omega) (by omega)
  refine ⟨T.length, [G.mk T 115 [(x.toNat, x.toNat)] true []], .setNot p0 p9 (.setTwo (not_is p1 (by omega)) hc p2 hd (Nat.le_refl _) (.setEnd p4)), ?_⟩
  rw [leaf_lang (hT.leaf _ true (by simp; omega))]
  exact one_eq fun _ => rfl
theorem At.none : At [91, 94, 93] dotL 0 := by
  refine ⟨fun s i hp => by rw [hp.1]; rfl, ?_⟩
  intro s d i T hp _ hT
  obtain ⟨p0, p9, p1, _⟩ := hp
  refine ⟨T.length, [G.mk T 115 [] true []], .setNot p0 p9 (.setEnd p1), ?_⟩
  rw [leaf_lang (hT.leaf [] true (by simp))]
  exact one_eq fun _ => rfl
theorem At.u62 : At [91, 92, 117, 48, 48, 54, 50, 93] (ch 98) 0 := by
  refine ⟨fun s i hp => by rw [hp.1]; rfl, ?_⟩
  intro s d i T hp _ hT
  obtain ⟨p0, p1, p2, p3, p4, p5, p6, p7, _⟩ := hp
  have at3 : ∀ {j : Nat} {x : UInt8}, pk s j = (x.toNat : Int) → U.at' s j = x.toNat := fun {j x} h => by rw [pk_lt (pk_pos h)] at h; omega
  have a3 := at3 p3
  have a4 := at3 p4
  have a5 := at3 p5
  have a6 := at3 p6
  have hl := pk_pos p7
  have hx : hexv s (i + 1 + 2) = 98 := by
    unfold hexv
    rw [a3, show i + 1 + 2 + 1 = i + 1 + 1 + 1 + 1 by omega, a4, show i + 1 + 2 + 2 = i + 1 + 1 + 1 + 1 + 1 by omega, a5, show i + 1 + 2 + 3 = i + 1 + 1 + 1 + 1 + 1 + 1 by omega, a6]
    rfl
  have hh : hexs s (i + 1 + 2) = true := by
    unfold hexs
    rw [a3, show i + 1 + 2 + 1 = i + 1 + 1 + 1 + 1 by omega, a4, show i + 1 + 2 + 2 = i + 1 + 1 + 1 + 1 + 1 by omega, a5, show i + 1 + 2 + 3 = i + 1 + 1 + 1 + 1 + 1 + 1 by omega, a6]
    rfl
  have p2' : pk s (i + 1 + 1) = 117 := p2
  have p1' : pk s (i + 1) = 92 := p1
  have hc : chr s 93 45 (i + 1) = some (98, i + 1 + 6) := by
    unfold chr
    rw [if_neg (by omega), if_pos p1']
    unfold esc
    rw [if_neg (by rw [p2']; decide), if_neg (by omega), if_neg (by omega), if_pos ⟨p2', by omega, hh, .inl (by omega)⟩, hx]
  have p7' : pk s (i + 1 + 6) = 93 := p7
  refine ⟨T.length, [G.mk T 115 [(98, 98)] false []], .set p0 (not_is p1 (by decide)) (.setOne (not_is p1 (by decide)) hc (by omega) (.setEnd p7')), ?_⟩
  rw [leaf_lang (hT.leaf _ false (by simp)), one_ch T _ (by omega)]
def TwoI (m n : Nat) (a b : List UInt8) : Prop := a.length ≤ n ∧ b.length ≤ n ∧ ∃ L, It a L m ∧ It b L m
def TwoE (m n : Nat) (a b : List UInt8) : Prop := a.length ≤ n ∧ b.length ≤ n ∧ ∃ L, Ex a L m ∧ Ex b L m
theorem TwoI.ex {m n : Nat} {a b : List UInt8} (h : TwoI m n a b) : TwoE m n a b := by
  obtain ⟨h1, h2, L, h3, h4⟩ := h
  exact ⟨h1, h2, L, .of h3, .of h4⟩
theorem TwoE.mono {m n m' n' : Nat} {a b : List UInt8} (h : TwoE m n a b) (hm : m ≤ m') (hn : n ≤ n') : TwoE m' n' a b := by
  obtain ⟨h1, h2, L, h3, h4⟩ := h
  exact ⟨by omega, by omega, L, h3.mono hm, h4.mono hm⟩
theorem two0 : TwoI 2 12 [39, 97, 39] [91, 97, 45, 97, 93] := ⟨by decide, by decide, ch 97, (It.atom (At.q1 97 (by decide) (by decide))).mono (by omega), (It.atom (At.sr 97 (by decide))).mono (by omega)⟩
theorem two1 : TwoI 2 12 [91, 97, 98, 93] [40, 39, 98, 39, 32, 124, 32, 91, 97, 93, 41] := by
  refine ⟨by decide, by decide, Lang.alt [ch 97, ch 98], (It.atom (At.s2 97 98 (by decide) (by decide))).mono (by omega), ?_⟩
  have h := At.paren (Ex.or (Ex.of (It.atom (At.q1 98 (by decide) (by decide)))) (Ex.of (It.atom (At.s1 97 (by decide)))).blank)
  rw [Lang.alt_comm]
  exact (It.atom h).mono (by omega)
theorem two2 : TwoI 2 12 [39, 98, 39] [91, 92, 117, 48, 48, 54, 50, 93] := ⟨by decide, by decide, ch 98, (It.atom (At.q1 98 (by decide) (by decide))).mono (by omega), (It.atom At.u62).mono (by omega)⟩
theorem two3 : TwoI 2 12 [91, 94, 97, 93] [91, 94, 97, 45, 97, 93] := ⟨by decide, by decide, nch 97, (It.atom (At.n1 97 (by decide))).mono (by omega), (It.atom (At.nr 97 (by decide))).mono (by omega)⟩
theorem two4 : TwoI 2 12 [46] [91, 94, 93] := ⟨by decide, by decide, dotL, (It.atom At.dot).mono (by omega), (It.atom At.none).mono (by omega)⟩
theorem two5 : TwoI 2 12 [39, 97, 98, 39] [39, 97, 39, 32, 39, 98, 39] :=
  ⟨by decide, by decide, Lang.cat (ch 97) (ch 98), (It.atom (At.q2 97 98 (by decide) (by decide))).mono (by omega), ((It.atom (At.q1 97 (by decide) (by decide))).cat (It.atom (At.q1 98 (by decide) (by decide))).blank).mono (by omega)⟩
theorem two6 : TwoI 2 12 [39, 99, 39] [40, 32, 40, 32, 39, 99, 39, 32, 41, 32, 41] := by
  refine ⟨by decide, by decide, ch 99, (It.atom (At.q1 99 (by decide) (by decide))).mono (by omega), ?_⟩
  exact It.atom (At.paren (Ex.of (It.atom (At.paren (Ex.of (It.atom (At.q1 99 (by decide) (by decide)))).blank.pad))).blank.pad)
theorem Ex.star {p : List UInt8} {L : Lang} {m : Nat} (h : Ex p L m) : It (40 :: p ++ [41] ++ [42]) (Lang.star L) (m + 1) := It.rep 42 (.inl rfl) (At.paren h)
theorem Ex.plus {p : List UInt8} {L : Lang} {m : Nat} (h : Ex p L m) : It (40 :: p ++ [41] ++ [43]) (Lang.plus L) (m + 1) := It.rep 43 (.inr (.inl rfl)) (At.paren h)
theorem Ex.opt {p : List UInt8} {L : Lang} {m : Nat} (h : Ex p L m) : It (40 :: p ++ [41] ++ [63]) (Lang.opt L) (m + 1) := It.rep 63 (.inr (.inr rfl)) (At.paren h)
theorem TwoE.m0 {m n : Nat} {a b : List UInt8} (h : TwoE m n a b) : TwoE (m + 2) (n + 7) (([40] ++ a) ++ [41, 42]) (([40, 40] ++ b) ++ [41, 43, 41, 63]) := by
  obtain ⟨h1, h2, L, h3, h4⟩ := h
  refine ⟨by simp; omega, by simp; omega, Lang.star L, ?_, ?_⟩
  · have := (Ex.of h3.star).mono (show m + 1 ≤ m + 2 by omega)
    simpa using this
  · have := Ex.of (Ex.of h4.plus).opt
    rw [← Lang.star_opt] at this
    simpa using this
theorem TwoE.m1 {m n : Nat} {a b : List UInt8} (h : TwoE m n a b) : TwoE (m + 2) (n + 7) (([40] ++ a) ++ [41, 43]) (([40, 40] ++ b) ++ [41, 43, 41, 43]) := by
  obtain ⟨h1, h2, L, h3, h4⟩ := h
  refine ⟨by simp; omega, by simp; omega, Lang.plus L, ?_, ?_⟩
  · have := (Ex.of h3.plus).mono (show m + 1 ≤ m + 2 by omega)
    simpa using this
  · have := Ex.of (Ex.of h4.plus).plus
    rw [← Lang.plus_plus] at this
    simpa using this
theorem TwoE.m2 {m n : Nat} {a b : List UInt8} (h : TwoE m n a b) : TwoE (m + 2) (n + 7) (([40, 40] ++ a) ++ [41, 42, 41, 42]) (([40] ++ b) ++ [41, 42]) := by
  obtain ⟨h1, h2, L, h3, h4⟩ := h
  refine ⟨by simp; omega, by simp; omega, Lang.star L, ?_, ?_⟩
  · have := Ex.of (Ex.of h3.star).star
    rw [Lang.star_star_eq] at this
    simpa using this
  · have := (Ex.of h4.star).mono (show m + 1 ≤ m + 2 by omega)
    simpa using this
theorem TwoE.m3 {m n : Nat} {a b : List UInt8} (h : TwoE m n a b) : TwoE (m + 2) (n + 12) (([40, 40] ++ a) ++ [41, 63, 32, 124, 32, 39, 113, 39, 41]) (([40, 39, 113, 39, 32, 124, 32, 40] ++ b) ++ [41, 63, 41]) := by
  obtain ⟨h1, h2, L, h3, h4⟩ := h
  have q := (Ex.of (It.atom (At.q1 113 (by decide) (by decide)))).mono (show 0 ≤ m + 1 by omega)
  refine ⟨by simp; omega, by simp; omega, Lang.alt [Lang.opt L, ch 113], ?_, ?_⟩
  · have := Ex.of (It.atom (At.paren ((Ex.of h3.opt).or q.blank)))
    simpa using this
  · have := Ex.of (It.atom (At.paren (q.or (Ex.of h4.opt).blank)))
    rw [Lang.alt_comm] at this
    simpa using this
theorem TwoE.m4 {m n : Nat} {a b c d : List UInt8} (h : TwoE m n a b) (k : TwoE m n c d) : TwoE (m + 2) (2 * n + 5) ((([40] ++ a) ++ [32, 124, 32]) ++ c ++ [41]) ((([40] ++ d) ++ [32, 124, 32]) ++ b ++ [41]) := by
  obtain ⟨h1, h2, L, h3, h4⟩ := h
  obtain ⟨k1, k2, K, k3, k4⟩ := k
  refine ⟨by simp; omega, by simp; omega, Lang.alt [L, K], ?_, ?_⟩
  · have := (Ex.of (It.atom (At.paren (h3.or k3.blank)))).mono (show m + 1 ≤ m + 2 by omega)
    simpa using this
  · have := (Ex.of (It.atom (At.paren (k4.or h4.blank)))).mono (show m + 1 ≤ m + 2 by omega)
    rw [Lang.alt_comm] at this
    simpa using this
theorem TwoE.m5 {m n : Nat} {a b c d : List UInt8} (h : TwoE m n a b) (k : TwoE m n c d) : TwoE (m + 2) (2 * n + 6) ((([40] ++ a) ++ [41, 32, 40]) ++ c ++ [41]) ((([40, 40] ++ b) ++ [41, 40]) ++ d ++ [41, 41]) := by
  obtain ⟨h1, h2, L, h3, h4⟩ := h
  obtain ⟨k1, k2, K, k3, k4⟩ := k
  refine ⟨by simp; omega, by simp; omega, Lang.cat L K, ?_, ?_⟩
  · have := (Ex.of ((It.atom (At.paren h3)).cat (It.atom (At.paren k3)).blank)).mono (show m + 1 ≤ m + 2 by omega)
    simpa using this
  · have := Ex.of (It.atom (At.paren (Ex.of ((It.atom (At.paren h4)).cat (It.atom (At.paren k4))))))
    simpa using this
theorem TwoE.m6 {m n : Nat} {a b c d e f : List UInt8} (h : TwoE m n a b) (k : TwoI m 12 c d) (g : TwoI m 12 e f) : TwoE (m + 2) (2 * n + 40) ((([40] ++ a) ++ [41, 32, 40]) ++ c ++ [32, 124, 32] ++ e ++ [41]) ((([40] ++ b) ++ [41, 32]) ++ d ++ [32, 124, 32, 40] ++ b ++ [41] ++ f) := by
  obtain ⟨h1, h2, L, h3, h4⟩ := h
  obtain ⟨k1, k2, K, k3, k4⟩ := k
  obtain ⟨g1, g2, M, g3, g4⟩ := g
  refine ⟨by simp; omega, by simp; omega, Lang.cat L (Lang.alt [K, M]), ?_, ?_⟩
  · have := (Ex.of ((It.atom (At.paren h3)).cat (It.atom (At.paren ((Ex.of k3).or (Ex.of g3).blank))).blank)).mono (show m + 1 ≤ m + 2 by omega)
    simpa using this
  · have := ((Ex.of ((It.atom (At.paren h4)).cat (k4.blank.mono (show m ≤ m + 1 by omega)))).or (Ex.of ((It.atom (At.paren h4)).cat (g4.mono (show m ≤ m + 1 by omega)))).blank).mono (show m + 1 ≤ m + 2 by omega)
    rw [← Lang.cat_alt] at this
    simpa using this
theorem TwoE.m7 {m n : Nat} {a b c d : List UInt8} (h : TwoE m n a b) (k : TwoI m 12 c d) : TwoE (m + 2) (n + 30) ((([40, 40] ++ a) ++ [41, 32, 124, 32]) ++ c ++ [41, 42]) ((([40, 40] ++ b) ++ [41, 42, 32, 40]) ++ d ++ [41, 42, 41, 42]) := by
  obtain ⟨h1, h2, L, h3, h4⟩ := h
  obtain ⟨k1, k2, K, k3, k4⟩ := k
  refine ⟨by simp; omega, by simp; omega, Lang.star (Lang.alt [L, K]), ?_, ?_⟩
  · have := Ex.of ((Ex.of (It.atom (At.paren h3))).or ((Ex.of k3).blank.mono (show m ≤ m + 1 by omega))).star
    simpa using this
  · have := Ex.of (Ex.of (h4.star.cat (Ex.of k4).star.blank)).star
    rw [← Lang.star_alt] at this
    simpa using this
def Rl (p : List UInt8) (Ls : List Lang) : Prop := ∀ s i Q T, Holds s i p → i ≤ s.size → WF T → (∀ q ∈ Q, q < T.length) →
  ∃ Q' X, (∀ q ∈ Q', q < (T ++ X).length) ∧ WF (T ++ X) ∧ Q'.map (lang (T ++ X)) = Ls ∧ ∀ r, Src s (i + p.length) [] (Q ++ Q') (T ++ X) r → Src s i [] Q T r
theorem Rl.nil : Rl [] [] := fun s i Q T _ _ hT _ => ⟨[], [], by simp, by simpa using hT, rfl, fun r hr => by simpa using hr⟩
theorem Src.same {s : ByteArray} {i i' : Nat} {E : List (ByteArray × Nat)} {Q : List Nat} {T : List PNode} {r : Fin'} (e : skip s i = skip s i') (h : Src s i E Q T r) : Src s i' E Q T r := by
  cases h with
  | done h => rw [e] at h; exact .done h
  | err h h2 => rw [e] at h h2; exact .err h h2
  | rule h h2 h3 => rw [e] at h h2; exact .rule h h2 h3
  | defn h h2 h3 => rw [e] at h h2; exact .defn h h2 h3
theorem Rl.cat {p q : List UInt8} {L M : List Lang} (h : Rl p L) (k : Rl q M) : Rl (p ++ q) (L ++ M) := by
  intro s i Q T hp hi hT hQ
  obtain ⟨hp1, hp2⟩ := Holds.app.1 hp
  obtain ⟨Q1, X, h1, h2, h3, h4⟩ := h s i Q T hp1 hi hT hQ
  obtain ⟨Q2, Y, k1, k2, k3, k4⟩ := k s (i + p.length) (Q ++ Q1) (T ++ X) hp2 (hp1.le hi) h2 (by
    intro z hz
    rcases List.mem_append.1 hz with hz | hz
    · have := hQ z hz; simp only [List.length_append]; omega
    · exact h1 z hz)
  refine ⟨Q1 ++ Q2, X ++ Y, ?_, by rw [← List.append_assoc]; exact k2, ?_, fun r hr => h4 r (k4 r ?_)⟩
  · intro z hz
    rcases List.mem_append.1 hz with hz | hz
    · have := h1 z hz; simp only [List.length_append] at this ⊢; omega
    · have := k1 z hz; simp only [List.length_append] at this ⊢; omega
  · rw [← List.append_assoc, List.map_append, k3, langs_append h2 k2 h1, h3]
  · rw [← List.append_assoc T] at hr
    rw [List.append_assoc Q, show i + p.length + q.length = i + (p ++ q).length by simp only [List.length_append]; omega]
    exact hr
theorem Rl.rule {a p z : List UInt8} {L : Lang} {m : Nat} (h : Ex p L m) (hm : m ≤ 40) (ha : ∀ s i, Holds s i a → skip s i = skip s (i + a.length)) (hz : ∀ s i, Holds s i z → pk s (skip s i) = 59 ∧ skip s (skip s i + 1) = skip s (i + z.length)) : Rl (a ++ p ++ z) [L] := by
  intro s i Q T hp hi hT hQ
  obtain ⟨hp12, hp3⟩ := Holds.app.1 hp
  obtain ⟨hp1, hp2⟩ := Holds.app.1 hp12
  obtain ⟨z1, z2⟩ := hz s _ hp3
  have e0 := ha s i hp1
  have hat := h.head s _ hp2
  have hl : skip s i < s.size := lt_of_pk (by rw [e0]; simp only [begins, decide_eq_true_eq] at hat; omega)
  have elen : i + (a ++ p).length = i + a.length + p.length := by simp only [List.length_append]; omega
  rw [elen] at z1 z2
  obtain ⟨qs, X, h1, h2, h3, h4, _, h6⟩ := h.read s 0 (i + a.length) T [] hp2 (by omega) hT (by simp) (by rw [z1]; rfl)
  have hw : WF ((T ++ X) ++ [G.mk (T ++ X) 99 [] false ([] ++ qs)]) := h3.snoc 99 [] false ([] ++ qs) (by simpa using h2) (by simp) (.inr (.inl ⟨.inr rfl, by simpa using h1⟩))
  have hR := (h6 (by rw [z1]; decide)).expr_same (i' := skip s i) (by rw [skip_skip, e0])
  have hn36 : ¬ Head s (skip s i) := by
    intro hh
    have h36 : pk s (skip s i) = 36 := hh.1
    rw [e0] at h36
    rw [h36] at hat
    exact absurd hat (by decide)
  have hst : Stm s [] (skip s i) T (.rule (T ++ X).length (skip s (skip s (i + a.length + p.length)) + 1) ((T ++ X) ++ [G.mk (T ++ X) 99 [] false ([] ++ qs)])) := .rule hn36 hR (by rw [skip_skip]; exact z1)
  rw [skip_skip] at hst
  refine ⟨[(T ++ X).length], X ++ [G.mk (T ++ X) 99 [] false ([] ++ qs)], by simp, by rw [← List.append_assoc]; exact hw, ?_, fun r hr => .rule hl hst ?_⟩
  · have hx : ((T ++ X) ++ [G.mk (T ++ X) 99 [] false ([] ++ qs)])[(T ++ X).length]? = some (G.mk (T ++ X) 99 [] false ([] ++ qs)) := by simp
    rw [← List.append_assoc, List.map_cons, List.map_nil, lang_alt hw hx rfl]
    show [Lang.alt (([] ++ qs).map _)] = [L]
    rw [langs_append h3 hw (ps := [] ++ qs) (by simpa using h2), List.nil_append, h4]
  · rw [← List.append_assoc] at hr
    refine hr.same ?_
    rw [z2]
    congr 1
    simp only [List.length_append]
    omega
end G
end Go.Proofs.YtpgcidpghmoibaaGreatDoor
