/-
  RUNES THAT NO SET TELLS APART, without the program: where units are exchanged for such, every rule matches as before, and the text is cut as before. Nothing of the program is run here. Conditions stand at each fact.
  TEXTS OF BYTES BELOW 128, without the program: each byte is a unit; two such texts whose bytes are the same but for x and y. Nothing of the program is run here. Conditions stand at each fact.
  ROWS OF BYTES, as memory: what a conversion of a text to bytes leaves, one byte written. Nothing of the program is run here. Conditions stand at each fact.
-/
import Derived.Test.YtpgcidpghmoibaaGreatDoorJ21
import Derived.Test.YtpgcidpghmoibaaGreatDoorJ22
import Derived.Test.YtpgcidpghmoibaaGreatDoorJ47
import Derived.Laws.BytesArg
import Derived.Test.YtpgcidpghmoibaaGreatDoorJ03
import Derived.Lib.ConvBytes
namespace Go.Proofs.YtpgcidpghmoibaaGreatDoor
namespace G

/-- One rune, or two of which each is x or y. -/
def Sw (x y c d : Int) : Prop := c = d ∨ ((c = x ∨ c = y) ∧ (d = x ∨ d = y))
theorem Sw.symm {x y c d : Int} (h : Sw x y c d) : Sw x y d c := by
  rcases h with h | ⟨h1, h2⟩
  · exact .inl h.symm
  · exact .inr ⟨h2, h1⟩
/-- So rune by rune. -/
def SwL (x y : Int) (u v : List Int) : Prop := u.length = v.length ∧ ∀ (i : Nat) (c d : Int), u[i]? = some c → v[i]? = some d → Sw x y c d
theorem SwL.symm {x y : Int} {u v : List Int} (h : SwL x y u v) : SwL x y v u := ⟨h.1.symm, fun i c d h1 h2 => (h.2 i d c h2 h1).symm⟩
theorem SwL.take {x y : Int} {u v : List Int} (h : SwL x y u v) (m : Nat) : SwL x y (u.take m) (v.take m) := by
  refine ⟨by rw [List.length_take, List.length_take, h.1], fun i c d h1 h2 => ?_⟩
  rw [List.getElem?_take] at h1 h2
  split at h1
  · rename_i e
    rw [if_pos e] at h2
    exact h.2 i c d h1 h2
  · cases h1
theorem SwL.drop {x y : Int} {u v : List Int} (h : SwL x y u v) (m : Nat) : SwL x y (u.drop m) (v.drop m) := by
  refine ⟨by rw [List.length_drop, List.length_drop, h.1], fun i c d h1 h2 => ?_⟩
  rw [List.getElem?_drop] at h1 h2
  exact h.2 _ c d h1 h2
theorem SwL.split {x y : Int} {a b v : List Int} (h : SwL x y (a ++ b) v) : ∃ a' b', v = a' ++ b' ∧ SwL x y a a' ∧ SwL x y b b' := by
  refine ⟨v.take a.length, v.drop a.length, (List.take_append_drop _ _).symm, ?_, ?_⟩
  · have := h.take a.length
    rwa [List.take_left'] at this
    rfl
  · have := h.drop a.length
    rwa [List.drop_left'] at this
    rfl
theorem SwL.nil {x y : Int} {v : List Int} (h : SwL x y [] v) : v = [] := List.eq_nil_of_length_eq_zero h.1.symm

/-- A language that does not tell x from y. -/
def Resp (x y : Int) (A : Lang) : Prop := ∀ u v, SwL x y u v → A u → A v
theorem Resp.eps (x y : Int) : Resp x y Lang.eps := fun u v h hu => by
  have hu : u = [] := hu
  subst hu
  exact h.nil
theorem Resp.none (x y : Int) : Resp x y Lang.none := fun _ _ _ h => h
theorem Resp.cat {x y : Int} {A B : Lang} (hA : Resp x y A) (hB : Resp x y B) : Resp x y (Lang.cat A B) := by
  rintro u v h ⟨a, b, rfl, h1, h2⟩
  obtain ⟨a', b', rfl, g1, g2⟩ := h.split
  exact ⟨a', b', rfl, hA _ _ g1 h1, hB _ _ g2 h2⟩
theorem Resp.star {x y : Int} {A : Lang} (hA : Resp x y A) : Resp x y (Lang.star A) := by
  intro u v h hu
  induction hu generalizing v with
  | nil => rw [h.nil]; exact .nil
  | cons ha _ ih =>
    obtain ⟨a', b', rfl, g1, g2⟩ := h.split
    exact .cons (hA _ _ g1 ha) (ih _ g2)
theorem Resp.rep {x y : Int} {A : Lang} (k : Nat) (hA : Resp x y A) : Resp x y (Lang.rep k A) := by
  unfold Lang.rep
  split
  · rintro u v h (rfl | hu)
    · exact .inl h.nil
    · exact .inr (hA _ _ h hu)
  · split
    · exact hA.cat hA.star
    · exact hA.star
theorem Resp.seq {x y : Int} : ∀ {l : List Lang}, (∀ A ∈ l, Resp x y A) → Resp x y (Lang.seq l)
  | [], _ => Resp.eps x y
  | A :: l, h => (h A (by simp)).cat (Resp.seq fun B hB => h B (by simp [hB]))
theorem Resp.alt {x y : Int} {l : List Lang} (h : ∀ A ∈ l, Resp x y A) : Resp x y (Lang.alt l) := by
  intro u v hs hu
  rw [Lang.alt_iff] at hu ⊢
  obtain ⟨A, hA, hu⟩ := hu
  exact ⟨A, hA, h A hA u v hs hu⟩
theorem Resp.one {x y : Int} {n : PNode} (h : inV n x = inV n y) : Resp x y (Lang.one n) := by
  rintro u v hs ⟨c, rfl, hc⟩
  have hl : v.length = 1 := hs.1.symm
  obtain ⟨d, rfl⟩ := List.length_eq_one_iff.1 hl
  refine ⟨d, rfl, ?_⟩
  rcases hs.2 0 c d rfl rfl with rfl | ⟨h1 | h1, h2 | h2⟩
  · exact hc
  · rw [h2, ← h1]; exact hc
  · rw [h2, ← h, ← h1]; exact hc
  · rw [h2, h, ← h1]; exact hc
  · rw [h2, ← h1]; exact hc
theorem lang_resp {T : List PNode} (hT : WF T) (x y : Int) : ∀ n, tellB T x y n = false → Resp x y (lang T n) := by
  intro n
  induction n using Nat.strongRecOn with
  | ind n ih =>
    intro ht
    cases hx : T[n]? with
    | none =>
      have : lang T n = Lang.none := by simp [lang, langF, hx]
      rw [this]
      exact Resp.none x y
    | some z =>
      rw [tellB_step hT x y hx] at ht
      rw [lang_step hT hx]
      have hps := (hT n z hx).parts
      by_cases h1 : z.kind = 115
      · rw [if_pos h1] at ht ⊢
        exact Resp.one (by simpa using ht)
      · rw [if_neg h1] at ht ⊢
        have hp : ∀ p ∈ z.parts, Resp x y (lang T p) := fun p hp => ih p (hps p hp) (by
          rw [List.any_eq_false] at ht
          simpa using ht p hp)
        by_cases h2 : z.kind = 113
        · rw [if_pos h2]
          refine Resp.seq fun A hA => ?_
          obtain ⟨p, hp', rfl⟩ := List.mem_map.1 hA
          exact hp p hp'
        · rw [if_neg h2]
          by_cases h3 : z.kind = 99
          · rw [if_pos h3]
            refine Resp.alt fun A hA => ?_
            obtain ⟨p, hp', rfl⟩ := List.mem_map.1 hA
            exact hp p hp'
          · rw [if_neg h3]
            have hk : z.parts.length = 1 := by
              rcases (hT n z hx).kind with ⟨k, _⟩ | ⟨k, _⟩ | ⟨_, k⟩
              · omega
              · omega
              · exact k
            obtain ⟨p, hp'⟩ := List.length_eq_one_iff.1 hk
            rw [hp']
            exact Resp.rep _ (hp p (by rw [hp']; simp))
theorem Long.resp {T : List PNode} {Q : List Nat} {x y : Int} (hQ : ∀ q ∈ Q, Resp x y (lang T q)) {u v : List Int} {n : Nat} {r : Int} (h : SwL x y u v) (hl : Long T Q u n r) : Long T Q v n r := by
  rcases hl with ⟨h1, h2, h3⟩ | ⟨h1, h2, j, q, h4, h5, h6, h7, h8⟩
  · exact .inl ⟨h1, h2, fun q hq m hm hm2 hv => h3 q hq m hm (by rw [h.1]; exact hm2) (hQ q hq _ _ (h.symm.take m) hv)⟩
  · refine .inr ⟨h1, by rw [← h.1]; exact h2, j, q, h4, h5, hQ q (List.mem_of_getElem? h5) _ _ (h.take n) h6, fun q' hq' m hm hm2 hv => h7 q' hq' m hm (by rw [h.1]; exact hm2) (hQ q' hq' _ _ (h.symm.take m) hv), fun i q' hi hq' hv => h8 i q' hi hq' (hQ q' (List.mem_of_getElem? hq') _ _ (h.symm.take n) hv)⟩
theorem CutR.resp {T : List PNode} {Q : List Nat} {x y : Int} (hQ : ∀ q ∈ Q, Resp x y (lang T q)) {s s' : ByteArray} (h : SwL x y (us s) (us s')) (he : ∀ k, edge s k = edge s' k) {k : Nat} {l : List Seg} (hc : CutR T Q s k l) : CutR T Q s' k l := by
  induction hc with
  | done h1 => exact .done (by rw [← h.1]; exact h1)
  | cons h1 h2 _ ih =>
    rw [he, he]
    exact .cons (by rw [← h.1]; exact h1) (h2.resp hQ (h.drop _)) ih

end G
end Go.Proofs.YtpgcidpghmoibaaGreatDoor

namespace Go.Proofs.YtpgcidpghmoibaaGreatDoor
namespace U
theorem rest_asc (s : ByteArray) (h : ∀ i, i < s.size → at' s i < 128) : ∀ (d p : Nat), p + d = s.size → rest s p = (List.range' p d).map fun j => (at' s j, j)
  | 0, p, hp => by rw [rest_end s p (by omega)]; rfl
  | d + 1, p, hp => by
    rw [rest_step s p (by omega), dec1 s p (h p (by omega)), rest_asc s h d (p + 1) (by omega), List.range'_succ]
    rfl
theorem units_asc (s : ByteArray) (h : ∀ i, i < s.size → at' s i < 128) : units s = (List.range' 0 s.size).map fun j => (at' s j, j) := rest_asc s h s.size 0 (by omega)
end U
namespace G
theorem us_asc (s : ByteArray) (h : ∀ i, i < s.size → U.at' s i < 128) : us s = (List.range' 0 s.size).map fun j => (U.at' s j : Int) := by
  unfold us
  rw [U.units_asc s h, List.map_map]
  rfl
theorem us_get (s : ByteArray) (h : ∀ i, i < s.size → U.at' s i < 128) (i : Nat) (c : Int) (hc : (us s)[i]? = some c) : i < s.size ∧ c = (U.at' s i : Int) := by
  rw [us_asc s h, List.getElem?_map] at hc
  obtain ⟨j, hj, rfl⟩ := Option.map_eq_some_iff.1 hc
  obtain ⟨hi, rfl⟩ := List.getElem?_eq_some_iff.1 hj
  rw [List.length_range'] at hi
  refine ⟨hi, ?_⟩
  simp
theorem edge_asc (s : ByteArray) (h : ∀ i, i < s.size → U.at' s i < 128) (k : Nat) : edge s k = if k < s.size then k else s.size := by
  have hl : (us s).length = s.size := by rw [us_asc s h]; simp
  split
  · rename_i hk
    have hx : (U.units s)[k]? = some (U.at' s k, k) := by
      rw [U.units_asc s h, List.getElem?_map, List.getElem?_eq_getElem (by rw [List.length_range']; exact hk)]
      simp
    exact edge_of hx
  · exact edge_end s k (by omega)
/-- Two texts of small bytes, the same but for x and y, are cut alike. -/
theorem cut_asc {T : List PNode} {Q : List Nat} {x y : Int} (hT : WF T) (hQ : ∀ q ∈ Q, tellB T x y q = false) {s s' : ByteArray} (hz : s.size = s'.size) (h : ∀ i, i < s.size → U.at' s i < 128) (h' : ∀ i, i < s'.size → U.at' s' i < 128) (hs : ∀ i, i < s.size → Sw x y (U.at' s i : Int) (U.at' s' i : Int)) {l : List Seg} (hc : CutR T Q s 0 l) : CutR T Q s' 0 l := by
  refine hc.resp (fun q hq => lang_resp hT x y q (hQ q hq)) ⟨?_, fun i c d hc hd => ?_⟩ (fun k => ?_)
  · rw [us_asc s h, us_asc s' h']
    simp [hz]
  · obtain ⟨hi, rfl⟩ := us_get s h i c hc
    obtain ⟨_, rfl⟩ := us_get s' h' i d hd
    exact hs i hi
  · rw [edge_asc s h, edge_asc s' h', hz]

theorem nums_size (xs : List Int) : (strOfNums xs).size = xs.length := by simp [strOfNums, ByteArray.size]
theorem nums_at (xs : List Int) (i : Nat) (c : Nat) (hc : xs[i]? = some (c : Int)) (h : c < 256) : U.at' (strOfNums xs) i = c := by
  obtain ⟨hi, he⟩ := List.getElem?_eq_some_iff.1 hc
  have hi' : i < (strOfNums xs).size := by rw [nums_size]; exact hi
  rw [← U.at_get _ i hi']
  show ((strOfNums xs).data[i]'hi').toNat = c
  simp [strOfNums, he]
  omega
end G
end Go.Proofs.YtpgcidpghmoibaaGreatDoor

namespace Go.Proofs.YtpgcidpghmoibaaGreatDoor
namespace Pr
open Go.RowKit

/-- At block g lie n bytes, byte j is F j, and they may be written. -/
structure BR (w : World) (g n : Nat) (F : Nat → Nat) : Prop where
  cell : ∀ j, j < n → w.cell? ⟨g, j, none⟩ = some (.int .u8 (F j : Int))
  free : ∀ j, j < n → w.frozen? ⟨g, j, none⟩ = false
theorem BR.same {w w' : World} {g n : Nat} {F : Nat → Nat} (h : BR w g n F) (hk : w'.heap[g]? = w.heap[g]?) : BR w' g n F := by
  refine ⟨fun j hj => ?_, fun j hj => ?_⟩
  · have := h.cell j hj
    unfold World.cell? at this ⊢
    rw [hk]
    exact this
  · have := h.free j hj
    unfold World.frozen? at this ⊢
    rw [hk]
    exact this
theorem BR.set {w : World} {g n : Nat} {F : Nat → Nat} (h : BR w g n F) (k v : Nat) (hk : k < n) : BR (w.setCell ⟨g, k, none⟩ (.int .u8 (v : Int))) g n (fun j => if j = k then v else F j) := by
  refine ⟨fun j hj => ?_, fun j hj => by rw [World.frozen?_setCell]; exact h.free j hj⟩
  by_cases e : j = k
  · subst e
    rw [if_pos rfl]
    exact World.cell?_setCell_same _ _ _ (h.cell j hj)
  · rw [if_neg e]
    refine (World.cell?_setCell_other _ _ _ _ (fun e2 => e ?_)).trans (h.cell j hj)
    have : k = j := congrArg Addr.off e2
    omega
theorem below_bytes (w : World) (e : TypeId) (s : ByteArray) : Below w.heap.size w (Lib.bytesWorld w e s) := by
  refine ⟨?_, ?_, ?_, ?_, fun k hk => Lib.bytesWorld_at_old w e s k hk⟩
  · rfl
  · rfl
  · rfl
  · rw [Lib.bytesWorld_size]; omega
theorem BR.start (w : World) (e : TypeId) (s : ByteArray) : BR (Lib.bytesWorld w e s) w.heap.size s.size (fun j => (s.data.toList.getD j 0).toNat) := by
  refine ⟨fun j hj => Lib.bytesWorld_cell w e s j hj, fun j hj => ?_⟩
  unfold World.frozen?
  simp only [Lib.bytesWorld_at_new]
  have : (Lib.bytesCells w e s).size ≥ s.size := by
    unfold Lib.bytesCells
    rw [Array.size_append, Array.size_map]
    have h2 : s.data.size = s.size := rfl
    omega
  simp
  omega

end Pr
end Go.Proofs.YtpgcidpghmoibaaGreatDoor
