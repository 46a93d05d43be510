/-
  SOURCES IN TWO WAYS, read without the program: rules of exprs that match the same, one source with blanks between them, the other with comments: both are read to the end, and their rules match the same, one by one. Nothing of the program is run here. Conditions stand at each fact.
  THE LAWS' HELPER sameCut: two lists of segments that begin and end alike, of which a rule cut both or none, are the same. Conditions: both lie in memory, at most 100000 segments.
-/
import Derived.Test.YtpgcidpghmoibaaGreatDoorK27
import Derived.Test.YtpgcidpghmoibaaGreatDoorK25
import Derived.Deep.QuietTactic
import Derived.BigQuiet
namespace Go.Proofs.YtpgcidpghmoibaaGreatDoor
namespace G
theorem skip_tail (s : ByteArray) (i : Nat) (h : Holds s i [32, 59, 10]) : pk s (skip s i) = 59 ∧ skip s (skip s i + 1) = skip s (i + [32, 59, 10].length) := by
  obtain ⟨h1, h2, h3, _⟩ := h
  have h2' : pk s (i + 1) = 59 := h2
  have e : skip s i = i + 1 := by
    rw [skip_blank (.inl h1)]
    exact skip_end (by omega) (by omega)
  rw [e]
  exact ⟨h2', skip_blank (.inr (.inr h3))⟩
theorem skip_semi (s : ByteArray) (i : Nat) (h : Holds s i [59]) : pk s (skip s i) = 59 ∧ skip s (skip s i + 1) = skip s (i + [59].length) := by
  have h2' : pk s i = 59 := h.1
  have e : skip s i = i := skip_end (by omega) (by omega)
  rw [e]
  exact ⟨h2', rfl⟩
theorem skip_rem (s : ByteArray) (i : Nat) (h : Holds s i [35, 32, 97, 32, 114, 117, 108, 101, 10]) : skip s i = skip s (i + [35, 32, 97, 32, 114, 117, 108, 101, 10].length) := by
  obtain ⟨h0, h1, h2, h3, h4, h5, h6, h7, h8, _⟩ := h
  have st : ∀ {j : Nat} {x : UInt8}, pk s j = (x.toNat : Int) → x.toNat ≠ 10 → com s j = com s (j + 1) := fun {j x} h hx => by
    have hl := pk_pos h
    rw [pk_lt hl] at h
    exact com_step hl (by omega)
  rw [skip_com h0, st h0 (by decide), st h1 (by decide), st h2 (by decide), st h3 (by decide), st h4 (by decide), st h5 (by decide), st h6 (by decide), st h7 (by decide)]
  have hl := pk_pos h8
  have h8' := h8
  rw [pk_lt hl] at h8'
  have h10 : U.at' s (i + 1 + 1 + 1 + 1 + 1 + 1 + 1 + 1) = 10 := by
    have : ((10 : UInt8).toNat) = 10 := rfl
    omega
  rw [com_end (fun hh => hh.2 h10), skip_blank (.inr (.inr h8))]
  rfl
def TwoS (k : Nat) (a b : ByteArray) : Prop := a.size ≤ 640 * k ∧ b.size ≤ 640 * k ∧ ∃ Ls, Ls.length = k ∧ Rl a.data.toList Ls ∧ Rl b.data.toList Ls
theorem TwoS.zero : TwoS 0 ByteArray.empty ByteArray.empty := ⟨Nat.le_refl _, Nat.le_refl _, [], rfl, Rl.nil, Rl.nil⟩
def Two (m n : Nat) (a b : ByteArray) : Prop := TwoE m n a.data.toList b.data.toList
theorem Two.size {m n : Nat} {a b : ByteArray} (h : Two m n a b) : a.size ≤ n ∧ b.size ≤ n := by
  have h1 := h.1
  have h2 := h.2.1
  rw [Array.length_toList] at h1 h2
  exact ⟨h1, h2⟩
theorem data_app (a b : ByteArray) : (a ++ b).data.toList = a.data.toList ++ b.data.toList := by
  rw [ByteArray.data_append, Array.toList_append]
theorem TwoS.snoc {k m n : Nat} {s t a b : ByteArray} (h : TwoS k s t) (hab : Two m n a b) (hm : m ≤ 40) (hn : n ≤ 600) : TwoS (k + 1) ((s ++ a) ++ ⟨#[32, 59, 10]⟩) (((t ++ ⟨#[35, 32, 97, 32, 114, 117, 108, 101, 10]⟩) ++ b) ++ ⟨#[59]⟩) := by
  obtain ⟨h1, h2, Ls, h3, h4, h5⟩ := h
  have hs := hab.size
  obtain ⟨_, _, L, k1, k2⟩ := hab
  refine ⟨?_, ?_, Ls ++ [L], by simp [h3], ?_, ?_⟩
  · simp only [ByteArray.size_append]
    show s.size + a.size + 3 ≤ _
    omega
  · simp only [ByteArray.size_append]
    show t.size + 9 + b.size + 1 ≤ _
    omega
  · have := h4.cat (Rl.rule (a := []) (z := [32, 59, 10]) k1 hm (fun s i _ => rfl) skip_tail)
    simpa [data_app] using this
  · have := h5.cat (Rl.rule (a := [35, 32, 97, 32, 114, 117, 108, 101, 10]) (z := [59]) k2 hm skip_rem skip_semi)
    simpa [data_app] using this
theorem Rl.src {a : ByteArray} {Ls : List Lang} (h : Rl a.data.toList Ls) : ∃ Q T, Src a 0 [] [] [] (.ok Q T) ∧ Q.map (lang T) = Ls := by
  obtain ⟨Q, X, h1, h2, h3, h4⟩ := h a 0 [] [] (holds_self a) (Nat.zero_le _) (by intro k x hx; simp at hx) (by simp)
  refine ⟨Q, X, ?_, by simpa using h3⟩
  have := h4 (.ok ([] ++ Q) ([] ++ X)) (.done (by
    rw [Array.length_toList]
    have := skip_ge a (0 + a.data.size)
    show ¬ _ < a.data.size
    omega))
  simpa using this
theorem TwoS.src {k : Nat} {a b : ByteArray} (h : TwoS k a b) : ∃ Q T Q' T', Src a 0 [] [] [] (.ok Q T) ∧ Src b 0 [] [] [] (.ok Q' T') ∧ SameLang T Q T' Q' ∧ Q.length = k ∧ Q'.length = k := by
  obtain ⟨_, _, Ls, h3, h4, h5⟩ := h
  obtain ⟨Q, T, k1, k2⟩ := h4.src
  obtain ⟨Q', T', g1, g2⟩ := h5.src
  have l1 : Q.length = k := by rw [← h3, ← k2]; simp
  have l2 : Q'.length = k := by rw [← h3, ← g2]; simp
  refine ⟨Q, T, Q', T', k1, g1, ⟨by omega, fun j q q' hq hq' => ?_⟩, l1, l2⟩
  have e1 : Ls[j]? = some (lang T q) := by rw [← k2, List.getElem?_map, hq]; rfl
  have e2 : Ls[j]? = some (lang T' q') := by rw [← g2, List.getElem?_map, hq']; rfl
  rw [e1] at e2
  exact Option.some.inj e2
theorem Two.of {m n : Nat} {a b : ByteArray} {x y : List UInt8} (h : TwoE m n x y) (ha : a.data.toList = x) (hb : b.data.toList = y) : Two m n a b := by
  unfold Two
  rw [ha, hb]
  exact h
def Two1 (a b : ByteArray) : Prop := TwoI 2 12 a.data.toList b.data.toList
theorem Two1.mono {m : Nat} {a b : ByteArray} (h : Two1 a b) (hm : 2 ≤ m) : TwoI m 12 a.data.toList b.data.toList := by
  obtain ⟨h1, h2, L, h3, h4⟩ := h
  exact ⟨h1, h2, L, h3.mono hm, h4.mono hm⟩
theorem Two1.size {a b : ByteArray} (h : Two1 a b) : a.size ≤ 12 ∧ b.size ≤ 12 := by
  have h1 := h.1
  have h2 := h.2.1
  rw [Array.length_toList] at h1 h2
  exact ⟨h1, h2⟩
def lim : Nat → Nat
  | 0 => 12
  | 1 => 80
  | 2 => 240
  | _ => 600
theorem lim_step {d : Nat} (hd : d ≤ 2) : 2 * lim d + 40 ≤ lim (d + 1) ∧ 12 ≤ lim d := by
  obtain rfl | rfl | rfl : d = 0 ∨ d = 1 ∨ d = 2 := by omega
  · decide
  · decide
  · decide
theorem Two.c0 {d : Nat} {p q : ByteArray} (hd : d ≤ 2) (h : Two (2 + 2 * d) (lim d) p q) : Two (2 + 2 * (d + 1)) (lim (d + 1)) (((⟨#[40]⟩ : ByteArray) ++ p) ++ (⟨#[41, 42]⟩ : ByteArray)) (((⟨#[40, 40]⟩ : ByteArray) ++ q) ++ (⟨#[41, 43, 41, 63]⟩ : ByteArray)) := by
  have hl := lim_step hd
  exact Two.of (TwoE.mono (TwoE.m0 h) (by omega) (by omega)) (by simp only [data_app, List.append_assoc]) (by simp only [data_app, List.append_assoc])
theorem Two.c1 {d : Nat} {p q : ByteArray} (hd : d ≤ 2) (h : Two (2 + 2 * d) (lim d) p q) : Two (2 + 2 * (d + 1)) (lim (d + 1)) (((⟨#[40]⟩ : ByteArray) ++ p) ++ (⟨#[41, 43]⟩ : ByteArray)) (((⟨#[40, 40]⟩ : ByteArray) ++ q) ++ (⟨#[41, 43, 41, 43]⟩ : ByteArray)) := by
  have hl := lim_step hd
  exact Two.of (TwoE.mono (TwoE.m1 h) (by omega) (by omega)) (by simp only [data_app, List.append_assoc]) (by simp only [data_app, List.append_assoc])
theorem Two.c2 {d : Nat} {p q : ByteArray} (hd : d ≤ 2) (h : Two (2 + 2 * d) (lim d) p q) : Two (2 + 2 * (d + 1)) (lim (d + 1)) (((⟨#[40, 40]⟩ : ByteArray) ++ p) ++ (⟨#[41, 42, 41, 42]⟩ : ByteArray)) (((⟨#[40]⟩ : ByteArray) ++ q) ++ (⟨#[41, 42]⟩ : ByteArray)) := by
  have hl := lim_step hd
  exact Two.of (TwoE.mono (TwoE.m2 h) (by omega) (by omega)) (by simp only [data_app, List.append_assoc]) (by simp only [data_app, List.append_assoc])
theorem Two.c3 {d : Nat} {p q : ByteArray} (hd : d ≤ 2) (h : Two (2 + 2 * d) (lim d) p q) : Two (2 + 2 * (d + 1)) (lim (d + 1)) (((⟨#[40, 40]⟩ : ByteArray) ++ p) ++ (⟨#[41, 63, 32, 124, 32, 39, 113, 39, 41]⟩ : ByteArray)) (((⟨#[40, 39, 113, 39, 32, 124, 32, 40]⟩ : ByteArray) ++ q) ++ (⟨#[41, 63, 41]⟩ : ByteArray)) := by
  have hl := lim_step hd
  exact Two.of (TwoE.mono (TwoE.m3 h) (by omega) (by omega)) (by simp only [data_app, List.append_assoc]) (by simp only [data_app, List.append_assoc])
theorem Two.c4 {d : Nat} {p q x y : ByteArray} (hd : d ≤ 2) (h : Two (2 + 2 * d) (lim d) p q) (g : Two (2 + 2 * d) (lim d) x y) : Two (2 + 2 * (d + 1)) (lim (d + 1)) (((((⟨#[40]⟩ : ByteArray) ++ p) ++ (⟨#[32, 124, 32]⟩ : ByteArray)) ++ x) ++ (⟨#[41]⟩ : ByteArray)) (((((⟨#[40]⟩ : ByteArray) ++ y) ++ (⟨#[32, 124, 32]⟩ : ByteArray)) ++ q) ++ (⟨#[41]⟩ : ByteArray)) := by
  have hl := lim_step hd
  exact Two.of (TwoE.mono (TwoE.m4 h g) (by omega) (by omega)) (by simp only [data_app, List.append_assoc]) (by simp only [data_app, List.append_assoc])
theorem Two.c5 {d : Nat} {p q x y : ByteArray} (hd : d ≤ 2) (h : Two (2 + 2 * d) (lim d) p q) (g : Two (2 + 2 * d) (lim d) x y) : Two (2 + 2 * (d + 1)) (lim (d + 1)) (((((⟨#[40]⟩ : ByteArray) ++ p) ++ (⟨#[41, 32, 40]⟩ : ByteArray)) ++ x) ++ (⟨#[41]⟩ : ByteArray)) (((((⟨#[40, 40]⟩ : ByteArray) ++ q) ++ (⟨#[41, 40]⟩ : ByteArray)) ++ y) ++ (⟨#[41, 41]⟩ : ByteArray)) := by
  have hl := lim_step hd
  exact Two.of (TwoE.mono (TwoE.m5 h g) (by omega) (by omega)) (by simp only [data_app, List.append_assoc]) (by simp only [data_app, List.append_assoc])
theorem Two.c6 {d : Nat} {p q x y x' y' : ByteArray} (hd : d ≤ 2) (h : Two (2 + 2 * d) (lim d) p q) (g : Two1 x y) (g' : Two1 x' y') : Two (2 + 2 * (d + 1)) (lim (d + 1)) (((((((⟨#[40]⟩ : ByteArray) ++ p) ++ (⟨#[41, 32, 40]⟩ : ByteArray)) ++ x) ++ (⟨#[32, 124, 32]⟩ : ByteArray)) ++ x') ++ (⟨#[41]⟩ : ByteArray)) ((((((((⟨#[40]⟩ : ByteArray) ++ q) ++ (⟨#[41, 32]⟩ : ByteArray)) ++ y) ++ (⟨#[32, 124, 32, 40]⟩ : ByteArray)) ++ q) ++ (⟨#[41]⟩ : ByteArray)) ++ y') := by
  have hl := lim_step hd
  exact Two.of (TwoE.mono (TwoE.m6 h (g.mono (by omega)) (g'.mono (by omega))) (by omega) (by omega)) (by simp only [data_app, List.append_assoc]) (by simp only [data_app, List.append_assoc])
theorem Two.c7 {d : Nat} {p q x y : ByteArray} (hd : d ≤ 2) (h : Two (2 + 2 * d) (lim d) p q) (g : Two1 x y) : Two (2 + 2 * (d + 1)) (lim (d + 1)) (((((⟨#[40, 40]⟩ : ByteArray) ++ p) ++ (⟨#[41, 32, 124, 32]⟩ : ByteArray)) ++ x) ++ (⟨#[41, 42]⟩ : ByteArray)) (((((⟨#[40, 40]⟩ : ByteArray) ++ q) ++ (⟨#[41, 42, 32, 40]⟩ : ByteArray)) ++ y) ++ (⟨#[41, 42, 41, 42]⟩ : ByteArray)) := by
  have hl := lim_step hd
  exact Two.of (TwoE.mono (TwoE.m7 h (g.mono (by omega))) (by omega) (by omega)) (by simp only [data_app, List.append_assoc]) (by simp only [data_app, List.append_assoc])
theorem Two.c8 {d : Nat} {p q : ByteArray} (hd : d ≤ 2) (h : Two (2 + 2 * d) (lim d) p q) : Two (2 + 2 * (d + 1)) (lim (d + 1)) p q := by
  have hl := lim_step hd
  exact TwoE.mono h (by omega) (by omega)
end G
end Go.Proofs.YtpgcidpghmoibaaGreatDoor

namespace Go.Proofs.YtpgcidpghmoibaaGreatDoor
namespace Pr
open Go.RowKit
def SegEq (l k : List G.Seg) : Prop := l.length = k.length ∧ ∀ (i : Nat) (x y : G.Seg), l[i]? = some x → k[i]? = some y → x.f = y.f ∧ x.t = y.t ∧ (x.r < 0 ↔ y.r < 0)
theorem SegEq.refl (l : List G.Seg) : SegEq l l := ⟨rfl, fun i x y hx hy => by rw [hx] at hy; simp only [Option.some.injEq] at hy; subst hy; exact ⟨rfl, rfl, Iff.rfl⟩⟩
set_option maxRecDepth 100000 in
set_option maxHeartbeats 2000000 in
theorem sameCut_any (w : World) (l k : List G.Seg) (u v : Value) (hu : w.ownsRow 0 65 3 u l.length (Rf.segs l)) (hv : w.ownsRow 0 65 3 v k.length (Rf.segs k)) (hn : l.length ≤ 100000) (he : SegEq l k) :
    Calls Tryz.prog 28 #[u, v] w fun e w' => e = .returned (.bool true) ∧ Below w.heap.size w w' := by
  obtain ⟨hlen, hall⟩ := he
  obtain ⟨ua, uc, rfl⟩ := Rf.own_len hu
  obtain ⟨va, vc, rfl⟩ := Rf.own_len hv
  rw [← hlen] at hv
  rw [← hlen]
  have HL : Hid (l.length = k.length) := hlen
  clear hlen
  generalize hN : l.length = n at *
  have HN : Hid (l.length = n) := hN
  clear hN
  go_enter Tryz.func28, Tryz.ntmps28
  go_wp2
  go_loopw [5] (fun vi wr => ∃ i : Nat, vi = .int .i64 i ∧ i ≤ n ∧ Below w.heap.size w wr) (fun vi _ => n - (intOf vi).toNat)
  case atStart => exact ⟨0, rfl, Nat.zero_le _, Below.refl _ _⟩
  case round =>
    obtain ⟨i, rfl, hi, hbr⟩ := hrel
    by_cases hlt : i < n
    · have hx : l[i]? = some (l[i]'(by rw [HN.out]; exact hlt)) := List.getElem?_eq_getElem _
      generalize l[i]'(by rw [HN.out]; exact hlt) = x at hx
      have hy : k[i]? = some (k[i]'(by rw [← HL.out]; exact hlt)) := List.getElem?_eq_getElem _
      generalize k[i]'(by rw [← HL.out]; exact hlt) = y at hy
      obtain ⟨h1, h2, h3⟩ := hall i x y hx hy
      obtain ⟨g1, rfl, cs1⟩ := Rf.seg_to hu hx hlt
      obtain ⟨g2, rfl, cs2⟩ := Rf.seg_to hv hy hlt
      obtain ⟨a0, a1, a2⟩ := cs1 wr hbr
      obtain ⟨b0, b1, b2⟩ := cs2 wr hbr
      rw [← h1] at b0
      rw [← h2] at b1
      clear cs1 cs2 hx hy h1 h2 hall hu hv
      obtain ⟨xf, xt, xr⟩ := x
      obtain ⟨yf, yt, yr⟩ := y
      simp only at *
      have hii : (i : Int) < (n : Int) := by omega
      have hi0 : (0 : Int) ≤ (i : Int) := by omega
      by_cases hr : xr < 0
      · have hr' : yr < 0 := h3.1 hr
        clear h3
        go_wp2_with fail
        go_quiet (fail)
        go_wp2
        go_roundw
        case rel => exact ⟨i + 1, by go_num, by omega, below_drewN hbr _⟩
        case measure => simp [intOf]; omega
      · have hr' : ¬ yr < 0 := fun h => hr (h3.2 h)
        have hd1 : decide (xr < 0) = false := decide_eq_false hr
        have hd2 : decide (yr < 0) = false := decide_eq_false hr'
        clear h3
        go_wp2_with fail
        go_quiet (fail)
        go_wp2
        go_roundw
        case rel => exact ⟨i + 1, by go_num, by omega, below_drewN hbr _⟩
        case measure => simp [intOf]; omega
    · obtain rfl : i = n := by omega
      go_wp2
      go_ret
      exact ⟨rfl, hbr⟩
end Pr
end Go.Proofs.YtpgcidpghmoibaaGreatDoor
