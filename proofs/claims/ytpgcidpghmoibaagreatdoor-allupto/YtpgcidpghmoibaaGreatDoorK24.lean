/-
  THE BOOK of the statements (the lists that came out, each with its mar
  THE BOOK of the statements
-/
import Derived.Test.YtpgcidpghmoibaaGreatDoorK02
import Derived.Test.YtpgcidpghmoibaaGreatDoorK22
import Derived.Deep.AppendLies
import Derived.Deep.RegionLaw
namespace Go.Proofs.YtpgcidpghmoibaaGreatDoor
open Go.RowKit
theorem own_same {w w':World} {e size n:Nat} {v:Value} {xs:List Value} (h:w.ownsRow 0 e size v n xs) (hk:∀ k,v.ownBlock=some k→w'.heap[k]?=w.heap[k]?):w'.ownsRow 0 e size v n xs:=by
  obtain ⟨h1,h2⟩:=h
  refine ⟨h1,?_⟩
  rcases h2 with h2 | ⟨g,cap,cur,rfl,h3,h4,h5⟩
  · exact .inl h2
  · exact .inr ⟨g,cap,cur,rfl,h3,by rw [hk g rfl];exact h4,h5⟩
theorem own_zero {w:World} {b e size n:Nat} {v:Value} {xs:List Value} (h:w.ownsRow b e size v n xs):w.ownsRow 0 e size v n xs:=by
  obtain ⟨h1,h2⟩:=h
  refine ⟨h1,?_⟩
  rcases h2 with h2 | ⟨g,cap,cur,rfl,h3,h4,h5⟩
  · exact .inl h2
  · exact .inr ⟨g,cap,cur,rfl,Nat.zero_le _,h4,h5⟩
structure Kept (p:Nat→Prop) (w w':World):Prop where
  os:w'.os=w.os
  tape:w'.tape=w.tape
  output:w'.output=w.output
  size:w.heap.size≤w'.heap.size
  block:∀ k,k < w.heap.size→p k→w'.heap[k]?=w.heap[k]?
theorem Kept.refl (p:Nat→Prop) (w:World):Kept p w w:=⟨rfl,rfl,rfl,Nat.le_refl _,fun _ _ _=>rfl⟩
theorem Kept.trans {p:Nat→Prop} {a b c:World} (h:Kept p a b) (k:Kept p b c):Kept p a c:=
  ⟨k.os.trans h.os,k.tape.trans h.tape,k.output.trans h.output,Nat.le_trans h.size k.size,fun i hi hp=>(k.block i (Nat.lt_of_lt_of_le hi h.size) hp).trans (h.block i hi hp)⟩
theorem Kept.mono {p q:Nat→Prop} {a b:World} (h:Kept p a b) (hq:∀ k,k < a.heap.size→q k→p k):Kept q a b:=⟨h.os,h.tape,h.output,h.size,fun k hk hp=>h.block k hk (hq k hk hp)⟩
theorem Kept.alloc {p:Nat→Prop} {a w:World} (h:Kept p a w) (o:Obj):Kept p a (w.alloc o):=
  h.trans ⟨rfl,rfl,rfl,by simp,fun k hk _=>Below.heap_alloc _ _ _ hk⟩
theorem Kept.drew {p:Nat→Prop} {a w:World} (h:Kept p a w):Kept p a w.drew:=⟨h.os,h.tape,h.output,h.size,h.block⟩
theorem Kept.setCell {p:Nat→Prop} {a w:World} (h:Kept p a w) {q:Addr} (hq:¬ p q.block) (u:Value):Kept p a (w.setCell q u):=
  h.trans ⟨rfl,rfl,rfl,by simp [World.setCell],fun k _ hp=>Below.heap_setCell _ _ _ _ (fun e=>hq (e ▸ hp))⟩
theorem Kept.below {p:Nat→Prop} {B:Nat} {a w:World} (h:Kept p a w) (hB:B≤a.heap.size) (hp:∀ k,k < B→p k):Below B a w:=
  ⟨h.os,h.tape,h.output,h.size,fun k hk=>h.block k (by omega) (hp k hk)⟩
theorem Kept.of_below {p:Nat→Prop} {a w:World} (h:Below a.heap.size a w):Kept p a w:=⟨h.os,h.tape,h.output,h.size,fun k hk _=>h.block k hk⟩
def rowT (t:Fin 3):TypeId:=match t with | 0=>33 | 1=>49 | 2=>60
def elT (t:Fin 3):TypeId:=match t with | 0=>3 | 1=>21 | 2=>65
def elS (t:Fin 3):Nat:=match t with | 0=>1 | 1=>1 | 2=>3
def mkOf (t:Fin 3) (m:Int):List Value:=match t with | 0=>[.int .i64 m] | 1=>[.int .i32 m] | 2=>[.int .i64 m,.int .i64 0,.int .i64 0]
theorem mkOf_len (t:Fin 3) (m:Int):(mkOf t m).length=elS t:=by
  match t with | 0=>rfl | 1=>rfl | 2=>rfl
theorem elS_pos (t:Fin 3):0 < elS t:=by
  match t with | 0=>decide | 1=>decide | 2=>decide
def full (t:Fin 3) (n:Nat) (m:Int):List Value:=(List.replicate n (mkOf t m)).flatten
theorem full_len (t:Fin 3) (n:Nat) (m:Int):(full t n m).length=n * elS t:=by
  induction n with
  | zero=>simp [full]
  | succ n ih=>simp only [full,List.replicate_succ,List.flatten_cons,List.length_append,mkOf_len] at *;rw [ih,Nat.succ_mul];omega
theorem full_snoc (t:Fin 3) (n:Nat) (m:Int):full t (n + 1) m=full t n m ++ mkOf t m:=by
  simp [full,List.replicate_succ']
theorem full_take (t:Fin 3) (m:Int):∀ (n k:Nat),k≤n→(full t n m).take (k * elS t)=full t k m
  | 0,k,h=>by
    obtain rfl:k=0:=by omega
    simp [full]
  | n + 1,k,h=>by
    rw [full_snoc]
    by_cases hk:k≤n
    · rw [List.take_append_of_le_length (by rw [full_len];exact Nat.mul_le_mul_right _ hk)]
      exact full_take t m n k hk
    · obtain rfl:k=n + 1:=by omega
      rw [← full_snoc,← full_len t (n + 1) m,List.take_length]
def Good (w:World) (t:Fin 3) (m:Int) (l:Value):Prop:=∃ n,w.ownsRow 0 (elT t) (elS t) l n (full t n m)
theorem Good.same {w w':World} {t:Fin 3} {m:Int} {l:Value} (h:Good w t m l) (hk:∀ k,l.ownBlock=some k→w'.heap[k]?=w.heap[k]?):Good w' t m l:=by
  obtain ⟨n,h⟩:=h
  exact ⟨n,own_same h hk⟩
structure BookAt (w:World) (b:Nat) (mark:Int) (rL rM:Fin 3→Value) (L:Fin 3→List Value) (M:Fin 3→List Int):Prop where
  blk:w.heap[b]?=some (.cells #[.int .i64 mark,rL 0,rM 0,rL 1,rM 1,rL 2,rM 2] 44 (0,0))
  oL:∀ t,w.ownsRow 0 (rowT t) 1 (rL t) (L t).length (L t)
  oM:∀ t,w.ownsRow 0 3 1 (rM t) (M t).length ((M t).map (Value.int .i64))
  good:∀ (t:Fin 3) (k:Nat) (l:Value) (m:Int),(L t)[k]?=some l→(M t)[k]?=some m→Good w t m l
  lt:∀ t,∀ l ∈ L t,∀ k,l.ownBlock=some k→k < w.heap.size
  apLL:∀ i j,i ≠ j→Apart (rL i) (rL j)
  apMM:∀ i j,i ≠ j→Apart (rM i) (rM j)
  apLM:∀ i j,Apart (rL i) (rM j)
  nbL:∀ i,(rL i).ownBlock ≠ some b
  nbM:∀ i,(rM i).ownBlock ≠ some b
  ent:∀ (t:Fin 3),∀ l ∈ L t,l.ownBlock ≠ some b∧∀ j,Apart l (rL j)∧Apart l (rM j)
def InBook (b:Nat) (rL rM:Fin 3→Value) (L:Fin 3→List Value) (k:Nat):Prop:=
  k=b ∨ (∃ t,(rL t).ownBlock=some k) ∨ (∃ t,(rM t).ownBlock=some k) ∨ (∃ t,∃ l ∈ L t,l.ownBlock=some k)
theorem BookAt.inlt {w:World} {b:Nat} {mark:Int} {rL rM:Fin 3→Value} {L:Fin 3→List Value} {M:Fin 3→List Int} (h:BookAt w b mark rL rM L M):∀ k,InBook b rL rM L k→k < w.heap.size:=by
  rintro k (rfl | ⟨t,ht⟩ | ⟨t,ht⟩ | ⟨t,l,hl,hk⟩)
  · exact lt_of_block h.blk
  · exact ((h.oL t).lt k ht).2
  · exact ((h.oM t).lt k ht).2
  · exact h.lt t l hl k hk
theorem BookAt.same {w w':World} {b:Nat} {mark:Int} {rL rM:Fin 3→Value} {L:Fin 3→List Value} {M:Fin 3→List Int} (h:BookAt w b mark rL rM L M) (hsz:w.heap.size≤w'.heap.size) (hk:∀ k,InBook b rL rM L k→w'.heap[k]?=w.heap[k]?):BookAt w' b mark rL rM L M where
  blk:=by rw [hk b (.inl rfl)];exact h.blk
  oL t:=own_same (h.oL t) (fun k e=>hk k (.inr (.inl ⟨t,e⟩)))
  oM t:=own_same (h.oM t) (fun k e=>hk k (.inr (.inr (.inl ⟨t,e⟩))))
  good t k l m hl hm:=(h.good t k l m hl hm).same (fun j e=>hk j (.inr (.inr (.inr ⟨t,l,List.mem_of_getElem? hl,e⟩))))
  lt t l hl k e:=Nat.lt_of_lt_of_le (h.lt t l hl k e) hsz
  apLL:=h.apLL
  apMM:=h.apMM
  apLM:=h.apLM
  nbL:=h.nbL
  nbM:=h.nbM
  ent:=h.ent
theorem BookAt.mark {w:World} {b:Nat} {mark:Int} {rL rM:Fin 3→Value} {L:Fin 3→List Value} {M:Fin 3→List Int} (h:BookAt w b mark rL rM L M) (mark':Int):BookAt (w.setCell ⟨b,0,none⟩ (.int .i64 mark')) b mark' rL rM L M:=by
  have hne:∀ k,k ≠ b→(w.setCell ⟨b,0,none⟩ (.int .i64 mark')).heap[k]?=w.heap[k]?:=fun k hk=>Below.heap_setCell _ _ _ _ hk
  refine ⟨?_,fun t=>own_same (h.oL t) (fun k e=>hne k (fun e2=>h.nbL t (e2 ▸ e))),fun t=>own_same (h.oM t) (fun k e=>hne k (fun e2=>h.nbM t (e2 ▸ e))),
    fun t k l m hl hm=>(h.good t k l m hl hm).same (fun j e=>hne j (fun e2=>(h.ent t l (List.mem_of_getElem? hl)).1 (e2 ▸ e))),fun t l hl k e=>by simpa [World.setCell] using h.lt t l hl k e,h.apLL,h.apMM,h.apLM,h.nbL,h.nbM,h.ent⟩
  simp only [World.setCell,Array.getElem?_modify,h.blk]
  simp
theorem own_len' {w:World} {b e size n:Nat} {v:Value} {xs:List Value} (h:w.ownsRow b e size v n xs):∃ a c,v=.slice a n c:=by
  rcases h.2 with ⟨rfl,rfl⟩ | ⟨g,cap,_,rfl,_⟩
  · exact ⟨_,_,rfl⟩
  · exact ⟨_,_,rfl⟩
def upd {α:Type} (f:Fin 3→α) (t:Fin 3) (x:α):Fin 3→α:=fun i=>if i=t then x else f i
theorem upd_same {α:Type} (f:Fin 3→α) (t:Fin 3) (x:α):upd f t x t=x:=by simp [upd]
theorem upd_other {α:Type} (f:Fin 3→α) (t i:Fin 3) (x:α) (h:i ≠ t):upd f t x i=f i:=by simp [upd,h]
def offL (t:Fin 3):Nat:=match t with | 0=>1 | 1=>3 | 2=>5
def offM (t:Fin 3):Nat:=match t with | 0=>2 | 1=>4 | 2=>6
theorem blk_L {w:World} {b:Nat} {mark:Int} {rL rM:Fin 3→Value} (h:w.heap[b]?=some (.cells #[.int .i64 mark,rL 0,rM 0,rL 1,rM 1,rL 2,rM 2] 44 (0,0))) (t:Fin 3) (v:Value) :
    (w.setCell ⟨b,offL t,none⟩ v).heap[b]?=some (.cells #[.int .i64 mark,upd rL t v 0,rM 0,upd rL t v 1,rM 1,upd rL t v 2,rM 2] 44 (0,0)):=by
  simp only [World.setCell,Array.getElem?_modify,h]
  match t with
  | 0=>simp [upd,offL]
  | 1=>simp [upd,offL]
  | 2=>simp [upd,offL]
theorem blk_M {w:World} {b:Nat} {mark:Int} {rL rM:Fin 3→Value} (h:w.heap[b]?=some (.cells #[.int .i64 mark,rL 0,rM 0,rL 1,rM 1,rL 2,rM 2] 44 (0,0))) (t:Fin 3) (v:Value) :
    (w.setCell ⟨b,offM t,none⟩ v).heap[b]?=some (.cells #[.int .i64 mark,rL 0,upd rM t v 0,rL 1,upd rM t v 1,rL 2,upd rM t v 2] 44 (0,0)):=by
  simp only [World.setCell,Array.getElem?_modify,h]
  match t with
  | 0=>simp [upd,offM]
  | 1=>simp [upd,offM]
  | 2=>simp [upd,offM]
def Lies (w:World) (u v:Value):Prop:=v.ownBlock=u.ownBlock ∨ ∃ k,v.ownBlock=some k∧w.heap.size≤k
theorem Lies.apart {w:World} {u v x:Value} (h:Lies w u v) (ha:Apart u x) (hx:∀ k,x.ownBlock=some k→k < w.heap.size):Apart v x:=by
  intro k hk hk2
  rcases h with h | ⟨j,hj,hge⟩
  · exact ha k (h ▸ hk) hk2
  · rw [hj] at hk
    have:=hx k hk2
    simp only [Option.some.injEq] at hk
    omega
theorem Lies.not {w:World} {u v:Value} {b:Nat} (h:Lies w u v) (hu:u.ownBlock ≠ some b) (hb:b < w.heap.size):v.ownBlock ≠ some b:=by
  intro e
  rcases h with h | ⟨j,hj,hge⟩
  · exact hu (h ▸ e)
  · rw [hj] at e
    simp only [Option.some.injEq] at e
    omega
theorem apart_ne {u v:Value} {k:Nat} (h:Apart u v) (hu:u.ownBlock=some k):some k ≠ v.ownBlock:=fun e=>h k hu e.symm
section
variable {w X w2:World} {b:Nat} {mark:Int} {rL rM:Fin 3→Value} {L:Fin 3→List Value} {M:Fin 3→List Int}
theorem BookAt.addL (h:BookAt w b mark rL rM L M) (t0:Fin 3) {l v:Value} (hX:Kept (fun _=>True) w X) (hg:X.grownBy w2 (rL t0).ownBlock) (hown:w2.ownsRow 0 (rowT t0) 1 v ((L t0).length + 1) (L t0 ++ [l])) (hat:Lies w (rL t0) v)
    (hlM:(M t0).length≤(L t0).length) (hl:l.ownBlock ≠ some b∧∀ j,Apart l (rL j)∧Apart l (rM j)) (hlt:∀ k,l.ownBlock=some k→k < w.heap.size) :
    BookAt (w2.setCell ⟨b,offL t0,none⟩ v) b mark (upd rL t0 v) rM (upd L t0 (L t0 ++ [l])) M:=by
  have hb:=lt_of_block h.blk
  have hsz:w.heap.size≤w2.heap.size:=Nat.le_trans hX.size hg.size
  have h2:∀ k,k < w.heap.size→some k ≠ (rL t0).ownBlock→w2.heap[k]?=w.heap[k]?:=fun k hk hn=>(hg.block k (Nat.lt_of_lt_of_le hk hX.size) hn).trans (hX.block k hk trivial)
  have h3:∀ k,k < w.heap.size→some k ≠ (rL t0).ownBlock→k ≠ b→(w2.setCell ⟨b,offL t0,none⟩ v).heap[k]?=w.heap[k]?:=fun k hk hn hkb=>(Below.heap_setCell _ _ _ _ hkb).trans (h2 k hk hn)
  have hvb:v.ownBlock ≠ some b:=hat.not (h.nbL t0) hb
  have hLlt:∀ j k,(rL j).ownBlock=some k→k < w.heap.size:=fun j k e=>((h.oL j).lt k e).2
  have hMlt:∀ j k,(rM j).ownBlock=some k→k < w.heap.size:=fun j k e=>((h.oM j).lt k e).2
  refine ⟨blk_L ((h2 b hb (fun e=>h.nbL t0 e.symm)).trans h.blk) t0 v,fun i=>?_,fun i=>?_,fun t k l' m hl' hm=>?_,fun t l' hl' k e=>?_,fun i j hij=>?_,h.apMM,fun i j=>?_,fun i=>?_,h.nbM,fun t l' hl'=>?_⟩
  · by_cases hi:i=t0
    · subst hi
      rw [upd_same,upd_same,List.length_append]
      exact own_same hown (fun k e=>Below.heap_setCell _ _ _ _ (fun (e2:k=b)=>hvb (e2 ▸ e)))
    · rw [upd_other _ _ _ _ hi,upd_other _ _ _ _ hi]
      exact own_same (h.oL i) (fun k e=>h3 k (hLlt i k e) (apart_ne (h.apLL i t0 hi) e) (fun e2=>h.nbL i (e2 ▸ e)))
  · exact own_same (h.oM i) (fun k e=>h3 k (hMlt i k e) (apart_ne (h.apLM t0 i).symm e) (fun e2=>h.nbM i (e2 ▸ e)))
  · have hold:(L t)[k]?=some l':=by
      by_cases ht:t=t0
      · subst ht
        rw [upd_same] at hl'
        have hk:k < (M t).length:=(List.getElem?_eq_some_iff.1 hm).1
        rwa [List.getElem?_append_left (by omega)] at hl'
      · rwa [upd_other _ _ _ _ ht] at hl'
    have hmem:=List.mem_of_getElem? hold
    exact (h.good t k l' m hold hm).same (fun j e=>h3 j (h.lt t l' hmem j e) (apart_ne ((h.ent t l' hmem).2 t0).1 e) (fun e2=>(h.ent t l' hmem).1 (e2 ▸ e)))
  · have:k < w.heap.size:=by
      by_cases ht:t=t0
      · subst ht
        rw [upd_same] at hl'
        rcases List.mem_append.1 hl' with h1 | h1
        · exact h.lt t l' h1 k e
        · rw [List.mem_singleton] at h1
          subst h1
          exact hlt k e
      · rw [upd_other _ _ _ _ ht] at hl'
        exact h.lt t l' hl' k e
    simp only [World.setCell,Array.size_modify]
    omega
  · by_cases hi:i=t0
    · subst hi
      rw [upd_same,upd_other _ _ _ _ (Ne.symm hij)]
      exact hat.apart (h.apLL i j hij) (hLlt j)
    · rw [upd_other _ _ _ _ hi]
      by_cases hj:j=t0
      · subst hj
        rw [upd_same]
        exact (hat.apart (h.apLL j i (Ne.symm hij)) (hLlt i)).symm
      · rw [upd_other _ _ _ _ hj]
        exact h.apLL i j hij
  · by_cases hi:i=t0
    · subst hi
      rw [upd_same]
      exact hat.apart (h.apLM i j) (hMlt j)
    · rw [upd_other _ _ _ _ hi]
      exact h.apLM i j
  · by_cases hi:i=t0
    · subst hi
      rw [upd_same]
      exact hvb
    · rw [upd_other _ _ _ _ hi]
      exact h.nbL i
  · have key:∀ x:Value,(x.ownBlock ≠ some b∧∀ j,Apart x (rL j)∧Apart x (rM j))→(∀ k,x.ownBlock=some k→k < w.heap.size)→x.ownBlock ≠ some b∧∀ j,Apart x (upd rL t0 v j)∧Apart x (rM j):=by
      intro x hx hxl
      refine ⟨hx.1,fun j=>⟨?_,(hx.2 j).2⟩⟩
      by_cases hj:j=t0
      · subst hj
        rw [upd_same]
        exact (hat.apart (hx.2 j).1.symm hxl).symm
      · rw [upd_other _ _ _ _ hj]
        exact (hx.2 j).1
    by_cases ht:t=t0
    · subst ht
      rw [upd_same] at hl'
      rcases List.mem_append.1 hl' with h1 | h1
      · exact key l' (h.ent t l' h1) (h.lt t l' h1)
      · rw [List.mem_singleton] at h1
        subst h1
        exact key l' hl hlt
    · rw [upd_other _ _ _ _ ht] at hl'
      exact key l' (h.ent t l' hl') (h.lt t l' hl')
theorem BookAt.addM (h:BookAt w b mark rL rM L M) (t0:Fin 3) {m0:Int} {v:Value} (hX:Kept (fun _=>True) w X) (hg:X.grownBy w2 (rM t0).ownBlock) (hown:w2.ownsRow 0 3 1 v ((M t0).length + 1) ((M t0).map (Value.int .i64) ++ [.int .i64 m0])) (hat:Lies w (rM t0) v)
    (hnew:∀ l,(L t0)[(M t0).length]?=some l→Good w t0 m0 l) :
    BookAt (w2.setCell ⟨b,offM t0,none⟩ v) b mark rL (upd rM t0 v) L (upd M t0 (M t0 ++ [m0])):=by
  have hb:=lt_of_block h.blk
  have hsz:w.heap.size≤w2.heap.size:=Nat.le_trans hX.size hg.size
  have h2:∀ k,k < w.heap.size→some k ≠ (rM t0).ownBlock→w2.heap[k]?=w.heap[k]?:=fun k hk hn=>(hg.block k (Nat.lt_of_lt_of_le hk hX.size) hn).trans (hX.block k hk trivial)
  have h3:∀ k,k < w.heap.size→some k ≠ (rM t0).ownBlock→k ≠ b→(w2.setCell ⟨b,offM t0,none⟩ v).heap[k]?=w.heap[k]?:=fun k hk hn hkb=>(Below.heap_setCell _ _ _ _ hkb).trans (h2 k hk hn)
  have hvb:v.ownBlock ≠ some b:=hat.not (h.nbM t0) hb
  have hLlt:∀ j k,(rL j).ownBlock=some k→k < w.heap.size:=fun j k e=>((h.oL j).lt k e).2
  have hMlt:∀ j k,(rM j).ownBlock=some k→k < w.heap.size:=fun j k e=>((h.oM j).lt k e).2
  refine ⟨blk_M ((h2 b hb (fun e=>h.nbM t0 e.symm)).trans h.blk) t0 v,fun i=>?_,fun i=>?_,fun t k l' m hl' hm=>?_,fun t l' hl' k e=>?_,h.apLL,fun i j hij=>?_,fun i j=>?_,h.nbL,fun i=>?_,fun t l' hl'=>⟨(h.ent t l' hl').1,fun j=>⟨((h.ent t l' hl').2 j).1,?_⟩⟩⟩
  · exact own_same (h.oL i) (fun k e=>h3 k (hLlt i k e) (apart_ne (h.apLM i t0) e) (fun e2=>h.nbL i (e2 ▸ e)))
  · by_cases hi:i=t0
    · subst hi
      rw [upd_same,upd_same,List.length_append,List.map_append]
      exact own_same hown (fun k e=>Below.heap_setCell _ _ _ _ (fun (e2:k=b)=>hvb (e2 ▸ e)))
    · rw [upd_other _ _ _ _ hi,upd_other _ _ _ _ hi]
      exact own_same (h.oM i) (fun k e=>h3 k (hMlt i k e) (apart_ne (h.apMM i t0 hi) e) (fun e2=>h.nbM i (e2 ▸ e)))
  · have hmem:=List.mem_of_getElem? hl'
    have hgd:Good w t m l':=by
      by_cases ht:t=t0
      · subst ht
        rw [upd_same] at hm
        rcases Nat.lt_or_ge k (M t).length with hk | hk
        · rw [List.getElem?_append_left hk] at hm
          exact h.good t k l' m hl' hm
        · have hlen:=(List.getElem?_eq_some_iff.1 hm).1
          rw [List.length_append,List.length_singleton] at hlen
          obtain rfl:k=(M t).length:=by omega
          rw [List.getElem?_append_right (Nat.le_refl _),Nat.sub_self] at hm
          simp only [List.getElem?_cons_zero,Option.some.injEq] at hm
          subst hm
          exact hnew l' hl'
      · rw [upd_other _ _ _ _ ht] at hm
        exact h.good t k l' m hl' hm
    exact hgd.same (fun j e=>h3 j (h.lt t l' hmem j e) (apart_ne ((h.ent t l' hmem).2 t0).2 e) (fun e2=>(h.ent t l' hmem).1 (e2 ▸ e)))
  · have:=h.lt t l' hl' k e
    simp only [World.setCell,Array.size_modify]
    omega
  · by_cases hi:i=t0
    · subst hi
      rw [upd_same,upd_other _ _ _ _ (Ne.symm hij)]
      exact hat.apart (h.apMM i j hij) (hMlt j)
    · rw [upd_other _ _ _ _ hi]
      by_cases hj:j=t0
      · subst hj
        rw [upd_same]
        exact (hat.apart (h.apMM j i (Ne.symm hij)) (hMlt i)).symm
      · rw [upd_other _ _ _ _ hj]
        exact h.apMM i j hij
  · by_cases hj:j=t0
    · subst hj
      rw [upd_same]
      exact (hat.apart (h.apLM i j).symm (hLlt i)).symm
    · rw [upd_other _ _ _ _ hj]
      exact h.apLM i j
  · by_cases hi:i=t0
    · subst hi
      rw [upd_same]
      exact hvb
    · rw [upd_other _ _ _ _ hi]
      exact h.nbM i
  · by_cases hj:j=t0
    · subst hj
      rw [upd_same]
      exact (hat.apart ((h.ent t l' hl').2 j).2.symm (h.lt t l' hl')).symm
    · rw [upd_other _ _ _ _ hj]
      exact ((h.ent t l' hl').2 j).2
structure Cur (w:World) (b:Nat) (rL rM:Fin 3→Value) (L:Fin 3→List Value) (M:Fin 3→List Int) (t0:Fin 3) (n:Nat) (m:Int) (l:Value):Prop where
  own:w.ownsRow 0 (elT t0) (elS t0) l n (full t0 n m)
  nb:l.ownBlock ≠ some b
  ap:∀ j,Apart l (rL j)∧Apart l (rM j)
  sh:∀ (t:Fin 3) (k:Nat) (l':Value) (m':Int),(L t)[k]?=some l'→(M t)[k]?=some m'→∀ g,l.ownBlock=some g→l'.ownBlock=some g→t=t0∧m'=m∧∃ n' a c,n'≤n∧l'=.slice a n' c
theorem Cur.lt {t0:Fin 3} {n:Nat} {m:Int} {l:Value} (h:Cur w b rL rM L M t0 n m l):∀ k,l.ownBlock=some k→k < w.heap.size:=fun k e=>(h.own.lt k e).2
theorem Cur.addL {t0:Fin 3} {n:Nat} {m:Int} {l v:Value} (hc:Cur w b rL rM L M t0 n m l) (hX:Kept (fun _=>True) w X) (hg:X.grownBy w2 (rL t0).ownBlock) (hat:Lies w (rL t0) v) (hlM:(M t0).length≤(L t0).length) :
    Cur (w2.setCell ⟨b,offL t0,none⟩ v) b (upd rL t0 v) rM (upd L t0 (L t0 ++ [l])) M t0 n m l:=by
  have h3:∀ k,k < w.heap.size→some k ≠ (rL t0).ownBlock→k ≠ b→(w2.setCell ⟨b,offL t0,none⟩ v).heap[k]?=w.heap[k]?:=fun k hk hn hkb=>(Below.heap_setCell _ _ _ _ hkb).trans ((hg.block k (Nat.lt_of_lt_of_le hk hX.size) hn).trans (hX.block k hk trivial))
  refine ⟨own_same hc.own (fun k e=>h3 k (hc.lt k e) (apart_ne (hc.ap t0).1 e) (fun e2=>hc.nb (e2 ▸ e))),hc.nb,fun j=>⟨?_,(hc.ap j).2⟩,fun t k l' m' hl' hm' g e1 e2=>?_⟩
  · by_cases hj:j=t0
    · subst hj
      rw [upd_same]
      exact (hat.apart (hc.ap j).1.symm hc.lt).symm
    · rw [upd_other _ _ _ _ hj]
      exact (hc.ap j).1
  · refine hc.sh t k l' m' ?_ hm' g e1 e2
    by_cases ht:t=t0
    · subst ht
      rw [upd_same] at hl'
      have hk:k < (M t).length:=(List.getElem?_eq_some_iff.1 hm').1
      rwa [List.getElem?_append_left (by omega)] at hl'
    · rwa [upd_other _ _ _ _ ht] at hl'
theorem Cur.addM {t0:Fin 3} {n:Nat} {m:Int} {l v:Value} (hc:Cur w b rL rM L M t0 n m l) (hX:Kept (fun _=>True) w X) (hg:X.grownBy w2 (rM t0).ownBlock) (hat:Lies w (rM t0) v) (hlast:(L t0)[(M t0).length]?=some l) :
    Cur (w2.setCell ⟨b,offM t0,none⟩ v) b rL (upd rM t0 v) L (upd M t0 (M t0 ++ [m])) t0 n m l:=by
  have h3:∀ k,k < w.heap.size→some k ≠ (rM t0).ownBlock→k ≠ b→(w2.setCell ⟨b,offM t0,none⟩ v).heap[k]?=w.heap[k]?:=fun k hk hn hkb=>(Below.heap_setCell _ _ _ _ hkb).trans ((hg.block k (Nat.lt_of_lt_of_le hk hX.size) hn).trans (hX.block k hk trivial))
  refine ⟨own_same hc.own (fun k e=>h3 k (hc.lt k e) (apart_ne (hc.ap t0).2 e) (fun e2=>hc.nb (e2 ▸ e))),hc.nb,fun j=>⟨(hc.ap j).1,?_⟩,fun t k l' m' hl' hm' g e1 e2=>?_⟩
  · by_cases hj:j=t0
    · subst hj
      rw [upd_same]
      exact (hat.apart (hc.ap j).2.symm hc.lt).symm
    · rw [upd_other _ _ _ _ hj]
      exact (hc.ap j).2
  · by_cases ht:t=t0
    · subst ht
      rw [upd_same] at hm'
      rcases Nat.lt_or_ge k (M t).length with hk | hk
      · rw [List.getElem?_append_left hk] at hm'
        exact hc.sh t k l' m' hl' hm' g e1 e2
      · have hlen:=(List.getElem?_eq_some_iff.1 hm').1
        rw [List.length_append,List.length_singleton] at hlen
        obtain rfl:k=(M t).length:=by omega
        rw [List.getElem?_append_right (Nat.le_refl _),Nat.sub_self] at hm'
        simp only [List.getElem?_cons_zero,Option.some.injEq] at hm'
        rw [hlast,Option.some.injEq] at hl'
        obtain ⟨a,c,hv⟩:=own_len' hc.own
        exact ⟨rfl,hm'.symm,n,a,c,Nat.le_refl _,by rw [← hl'];exact hv⟩
    · rw [upd_other _ _ _ _ ht] at hm'
      exact hc.sh t k l' m' hl' hm' g e1 e2
theorem part_good {W W':World} {t:Fin 3} {g cap n n':Nat} {m:Int} {a:Option Addr} {c:Nat} (hW:W.ownsRow 0 (elT t) (elS t) (.slice (some ⟨g,0,none⟩) n cap) n (full t n m)) (hW':W'.ownsRow 0 (elT t) (elS t) (.slice (some ⟨g,0,none⟩) (n + 1) cap) (n + 1) (full t (n + 1) m))
    (hgd:Good W t m (.slice a n' c)) (hblk:(Value.slice a n' c).ownBlock=some g) (hn:n'≤n):Good W' t m (.slice a n' c):=by
  obtain ⟨n2,h1,h2⟩:=hgd
  rcases h2 with ⟨h0,_⟩ | ⟨g2,cap2,cur2,hv,_,hh2,hnc2,hcm2,hsz2,htk2⟩
  · simp only [Value.slice.injEq] at h0
    obtain ⟨rfl,_,_⟩:=h0
    simp [Value.ownBlock] at hblk
  · simp only [Value.slice.injEq] at hv
    obtain ⟨rfl,rfl,rfl⟩:=hv
    simp only [Value.ownBlock,Option.some.injEq] at hblk
    subst hblk
    rcases hW.2 with ⟨h0,_⟩ | ⟨g3,cap3,cur3,hv3,_,hh3,hnc3,hcm3,hsz3,htk3⟩
    · cases h0
    rcases hW'.2 with ⟨h0,_⟩ | ⟨g4,cap4,cur4,hv4,_,hh4,hnc4,hcm4,hsz4,htk4⟩
    · cases h0
    simp only [Value.slice.injEq,Option.some.injEq,Addr.mk.injEq] at hv3 hv4
    obtain ⟨⟨rfl,_⟩,_,rfl⟩:=hv3
    obtain ⟨⟨rfl,_⟩,_,rfl⟩:=hv4
    rw [hh2] at hh3
    simp only [Option.some.injEq,Obj.cells.injEq] at hh3
    obtain ⟨rfl,_⟩:=hh3
    have hcc:c=cap:=Nat.eq_of_mul_eq_mul_right (elS_pos t) (hsz2.symm.trans hsz3)
    subst hcc
    refine ⟨n',full_len t n' m,.inr ⟨_,_,cur4,rfl,Nat.zero_le _,hh4,by omega,hcm4,hsz4,?_⟩⟩
    have e:(cur4.toList.take ((n + 1) * elS t)).take (n' * elS t)=(full t (n + 1) m).take (n' * elS t):=by rw [htk4]
    rw [List.take_take,Nat.min_eq_left (Nat.mul_le_mul_right _ (by omega)),full_take t m (n + 1) n' (by omega)] at e
    exact e
theorem BookAt.grows (h:BookAt w b mark rL rM L M) {t0:Fin 3} {n:Nat} {m:Int} {l l2:Value} (hc:Cur w b rL rM L M t0 n m l) (hX:Kept (fun _=>True) w X) (hg:X.grownBy w2 l.ownBlock) (hown:w2.ownsRow 0 (elT t0) (elS t0) l2 (n + 1) (full t0 (n + 1) m))
    (hs:(∃ g cap,l=.slice (some ⟨g,0,none⟩) n cap∧l2=.slice (some ⟨g,0,none⟩) (n + 1) cap) ∨ (l2.ownBlock=some X.heap.size∧X.grownBy w2 none)) :
    BookAt w2 b mark rL rM L M∧Cur w2 b rL rM L M t0 (n + 1) m l2:=by
  have hb:=lt_of_block h.blk
  have hsz:w.heap.size≤w2.heap.size:=Nat.le_trans hX.size hg.size
  have h2:∀ k,k < w.heap.size→some k ≠ l.ownBlock→w2.heap[k]?=w.heap[k]?:=fun k hk hn=>(hg.block k (Nat.lt_of_lt_of_le hk hX.size) hn).trans (hX.block k hk trivial)
  have hLlt:∀ j k,(rL j).ownBlock=some k→k < w.heap.size:=fun j k e=>((h.oL j).lt k e).2
  have hMlt:∀ j k,(rM j).ownBlock=some k→k < w.heap.size:=fun j k e=>((h.oM j).lt k e).2
  have hat:Lies w l l2:=by
    rcases hs with ⟨g,cap,rfl,rfl⟩ | ⟨e,_⟩
    · exact .inl rfl
    · exact .inr ⟨_,e,hX.size⟩
  have hgood:∀ (t:Fin 3) (k:Nat) (l':Value) (m':Int),(L t)[k]?=some l'→(M t)[k]?=some m'→Good w2 t m' l':=by
    intro t k l' m' hl' hm'
    have hmem:=List.mem_of_getElem? hl'
    have hgd:=h.good t k l' m' hl' hm'
    rcases hs with ⟨g,cap,rfl,rfl⟩ | ⟨_,hnone⟩
    · by_cases hgb:l'.ownBlock=some g
      · obtain ⟨rfl,rfl,n',a,c,hle,rfl⟩:=hc.sh t k l' m' hl' hm' g rfl hgb
        exact part_good hc.own hown hgd hgb hle
      · exact hgd.same (fun j e=>h2 j (h.lt t l' hmem j e) (fun e2=>hgb (by rw [e,e2];rfl)))
    · exact hgd.same (fun j e=>(hnone.block j (Nat.lt_of_lt_of_le (h.lt t l' hmem j e) hX.size) (by simp)).trans (hX.block j (h.lt t l' hmem j e) trivial))
  refine ⟨⟨(h2 b hb (fun e=>hc.nb e.symm)).trans h.blk,fun i=>own_same (h.oL i) (fun k e=>h2 k (hLlt i k e) (apart_ne (hc.ap i).1.symm e)),fun i=>own_same (h.oM i) (fun k e=>h2 k (hMlt i k e) (apart_ne (hc.ap i).2.symm e)),hgood,
    fun t l' hl' k e=>Nat.lt_of_lt_of_le (h.lt t l' hl' k e) hsz,h.apLL,h.apMM,h.apLM,h.nbL,h.nbM,h.ent⟩,⟨hown,hat.not hc.nb hb,fun j=>⟨hat.apart (hc.ap j).1 (hLlt j),hat.apart (hc.ap j).2 (hMlt j)⟩,fun t k l' m' hl' hm' g e1 e2=>?_⟩⟩
  have hmem:=List.mem_of_getElem? hl'
  rcases hs with ⟨g0,cap,rfl,rfl⟩ | ⟨e0,_⟩
  · obtain ⟨a1,a2,n',a,c,hle,e⟩:=hc.sh t k l' m' hl' hm' g e1 e2
    exact ⟨a1,a2,n',a,c,by omega,e⟩
  · exfalso
    have:=h.lt t l' hmem g e2
    rw [e0] at e1
    simp only [Option.some.injEq] at e1
    have:=hX.size
    omega
end
structure KS (w wr:World) (b:Nat) (S:Nat→Prop) (c:Nat) (t0:Fin 3) (l:Value) (n j d:Nat) (lv:Value) (rL rM:Fin 3→Value) (L:Fin 3→List Value) (M:Fin 3→List Int):Prop where
  ba:BookAt wr b ((c:Int) + 1) rL rM L M
  cu:Cur wr b rL rM L M t0 n (-((c:Int) + 1)) lv
  lo:∀ t,t ≠ t0→(L t).length=(M t).length
  l0:(L t0).length=(M t0).length + d
  bd:∀ t,(M t).length≤4 * c + j
  lw:d=1→(L t0)[(M t0).length]?=some lv
  mks:∀ t,∀ m ∈ M t,-((c:Int) + 1)≤m∧m≤0
  foot:∀ k,InBook b rL rM L k→S k ∨ l.ownBlock=some k ∨ w.heap.size≤k
  lies:∀ k,lv.ownBlock=some k→l.ownBlock=some k ∨ w.heap.size≤k
  kept:Kept (fun k=>¬ S k∧l.ownBlock ≠ some k) w wr
section
variable {w wr X w2:World} {b:Nat} {S:Nat→Prop} {c:Nat} {t0:Fin 3} {l:Value} {n j:Nat} {lv v:Value} {rL rM:Fin 3→Value} {L:Fin 3→List Value} {M:Fin 3→List Int}
theorem lies_foot (hw:w.heap.size≤wr.heap.size) {u v:Value} (h:Lies wr u v) {k:Nat} (hk:v.ownBlock=some k):u.ownBlock=some k ∨ w.heap.size≤k:=by
  rcases h with h | ⟨i,hi,hge⟩
  · exact .inl (h ▸ hk)
  · rw [hi,Option.some.injEq] at hk
    exact .inr (by omega)
theorem kept_row {p:Nat→Prop} (hk:Kept p w wr) {row:Option Nat} (hf:∀ k,k < w.heap.size→row=some k→¬ p k) (hX:Kept (fun _=>True) wr X) (hg:X.grownBy w2 row):Kept p w w2:=by
  refine ⟨hg.os.trans (hX.os.trans hk.os),hg.tape.trans (hX.tape.trans hk.tape),hg.output.trans (hX.output.trans hk.output),Nat.le_trans hk.size (Nat.le_trans hX.size hg.size),fun k hk2 hp=>?_⟩
  have h1:k < wr.heap.size:=Nat.lt_of_lt_of_le hk2 hk.size
  exact ((hg.block k (Nat.lt_of_lt_of_le h1 hX.size) (fun e=>hf k hk2 e.symm hp)).trans (hX.block k h1 trivial)).trans (hk.block k hk2 hp)
theorem KS.A (h:KS w wr b S c t0 l n j 0 lv rL rM L M) (hb:S b) (hX:Kept (fun _=>True) wr X) (hg:X.grownBy w2 (rL t0).ownBlock) (hown:w2.ownsRow 0 (rowT t0) 1 v ((L t0).length + 1) (L t0 ++ [lv])) (hat:Lies wr (rL t0) v) :
    KS w (w2.setCell ⟨b,offL t0,none⟩ v) b S c t0 l n j 1 lv (upd rL t0 v) rM (upd L t0 (L t0 ++ [lv])) M where
  ba:=h.ba.addL t0 hX hg hown hat (by have:=h.l0;omega) ⟨h.cu.nb,h.cu.ap⟩ h.cu.lt
  cu:=h.cu.addL hX hg hat (by have:=h.l0;omega)
  lo t ht:=by rw [upd_other _ _ _ _ ht];exact h.lo t ht
  l0:=by rw [upd_same,List.length_append,h.l0];simp
  bd:=h.bd
  lw _:=by
    have:=h.l0
    rw [upd_same,List.getElem?_append_right (by omega),this]
    simp
  mks:=h.mks
  foot k hk:=by
    rcases hk with rfl | ⟨t,ht⟩ | ⟨t,ht⟩ | ⟨t,l',hl',hk⟩
    · exact .inl hb
    · by_cases e:t=t0
      · subst e
        rw [upd_same] at ht
        rcases lies_foot h.kept.size hat ht with h1 | h1
        · exact h.foot k (.inr (.inl ⟨t,h1⟩))
        · exact .inr (.inr h1)
      · rw [upd_other _ _ _ _ e] at ht
        exact h.foot k (.inr (.inl ⟨t,ht⟩))
    · exact h.foot k (.inr (.inr (.inl ⟨t,ht⟩)))
    · by_cases e:t=t0
      · subst e
        rw [upd_same] at hl'
        rcases List.mem_append.1 hl' with h1 | h1
        · exact h.foot k (.inr (.inr (.inr ⟨t,l',h1,hk⟩)))
        · rw [List.mem_singleton] at h1
          subst h1
          exact .inr (h.lies k hk)
      · rw [upd_other _ _ _ _ e] at hl'
        exact h.foot k (.inr (.inr (.inr ⟨t,l',hl',hk⟩)))
  lies:=h.lies
  kept:=(kept_row h.kept (fun k hk e hp=>by
    rcases h.foot k (.inr (.inl ⟨t0,e⟩)) with h1 | h1 | h1
    · exact hp.1 h1
    · exact hp.2 h1
    · omega) hX hg).setCell (fun hp=>hp.1 hb) _
theorem KS.B (h:KS w wr b S c t0 l n j 1 lv rL rM L M) (hb:S b) (hX:Kept (fun _=>True) wr X) (hg:X.grownBy w2 (rM t0).ownBlock) (hown:w2.ownsRow 0 3 1 v ((M t0).length + 1) ((M t0).map (Value.int .i64) ++ [.int .i64 (-((c:Int) + 1))])) (hat:Lies wr (rM t0) v) :
    KS w (w2.setCell ⟨b,offM t0,none⟩ v) b S c t0 l n (j + 1) 0 lv rL (upd rM t0 v) L (upd M t0 (M t0 ++ [-((c:Int) + 1)])) where
  ba:=h.ba.addM t0 hX hg hown hat (fun l' hl'=>by
    rw [h.lw rfl,Option.some.injEq] at hl'
    subst hl'
    exact ⟨n,h.cu.own⟩)
  cu:=h.cu.addM hX hg hat (h.lw rfl)
  lo t ht:=by rw [upd_other _ _ _ _ ht];exact h.lo t ht
  l0:=by rw [upd_same,List.length_append,h.l0];simp
  bd t:=by
    by_cases e:t=t0
    · subst e
      rw [upd_same,List.length_append]
      have:=h.bd t
      simp
      omega
    · rw [upd_other _ _ _ _ e]
      have:=h.bd t
      omega
  lw e:=by cases e
  mks t m hm:=by
    by_cases e:t=t0
    · subst e
      rw [upd_same] at hm
      rcases List.mem_append.1 hm with h1 | h1
      · exact h.mks t m h1
      · rw [List.mem_singleton] at h1
        subst h1
        omega
    · rw [upd_other _ _ _ _ e] at hm
      exact h.mks t m hm
  foot k hk:=by
    rcases hk with rfl | ⟨t,ht⟩ | ⟨t,ht⟩ | ⟨t,l',hl',hk⟩
    · exact .inl hb
    · exact h.foot k (.inr (.inl ⟨t,ht⟩))
    · by_cases e:t=t0
      · subst e
        rw [upd_same] at ht
        rcases lies_foot h.kept.size hat ht with h1 | h1
        · exact h.foot k (.inr (.inr (.inl ⟨t,h1⟩)))
        · exact .inr (.inr h1)
      · rw [upd_other _ _ _ _ e] at ht
        exact h.foot k (.inr (.inr (.inl ⟨t,ht⟩)))
    · exact h.foot k (.inr (.inr (.inr ⟨t,l',hl',hk⟩)))
  lies:=h.lies
  kept:=(kept_row h.kept (fun k hk e hp=>by
    rcases h.foot k (.inr (.inr (.inl ⟨t0,e⟩))) with h1 | h1 | h1
    · exact hp.1 h1
    · exact hp.2 h1
    · omega) hX hg).setCell (fun hp=>hp.1 hb) _
theorem KS.C (h:KS w wr b S c t0 l n j 0 lv rL rM L M) (hX:Kept (fun _=>True) wr X) (hg:X.grownBy w2 lv.ownBlock) (hown:w2.ownsRow 0 (elT t0) (elS t0) v (n + 1) (full t0 n (-((c:Int) + 1)) ++ mkOf t0 (-((c:Int) + 1))))
    (hs:(∃ g cap,lv=.slice (some ⟨g,0,none⟩) n cap∧v=.slice (some ⟨g,0,none⟩) (n + 1) cap) ∨ (v.ownBlock=some X.heap.size∧X.grownBy w2 none)) :
    KS w w2 b S c t0 l (n + 1) j 0 v rL rM L M:=by
  rw [← full_snoc] at hown
  have G:=h.ba.grows h.cu hX hg hown hs
  refine ⟨G.1,G.2,h.lo,h.l0,h.bd,(fun e=>by cases e),h.mks,h.foot,fun k hk=>?_,kept_row h.kept (fun k hk e hp=>?_) hX hg⟩
  · rcases hs with ⟨g,cap,rfl,rfl⟩ | ⟨e,_⟩
    · exact h.lies k hk
    · rw [e,Option.some.injEq] at hk
      have:=hX.size
      have:=h.kept.size
      exact .inr (by omega)
  · rcases h.lies k e with h1 | h1
    · exact hp.2 h1
    · omega
end
end Go.Proofs.YtpgcidpghmoibaaGreatDoor

namespace Go.Proofs.YtpgcidpghmoibaaGreatDoor
open Go.RowKit
def Book (w:World) (b:Nat) (S:Nat→Prop) (c:Nat):Prop:=
  ∃ rL rM L M,BookAt w b (c:Int) rL rM L M∧(∀ t,(L t).length=(M t).length∧(L t).length≤4 * c)∧(∀ t,∀ m ∈ M t,-(c:Int)≤m∧m≤0)∧∀ k,InBook b rL rM L k→S k
theorem infoIl:(Tryz.prog.info? 33).map (fun i=>(i.zero,i.size,i.bytes))=some (some (.slice none 0 0),1,24):=by kernel_rfl
theorem cell_blk {w:World} {b:Nat} {cs:Array Value} {t:TypeId} (h:w.heap[b]?=some (.cells cs t (0,0))) (i:Nat) (v:Value) (hv:cs[i]?=some v):w.cell? ⟨b,i,none⟩=some v:=by
  simp [World.cell?,h,hv]
theorem free_blk {w:World} {b:Nat} {cs:Array Value} {t:TypeId} (h:w.heap[b]?=some (.cells cs t (0,0))) (i:Nat):w.frozen? ⟨b,i,none⟩=false:=by
  simp [World.frozen?,h]
theorem lies_of {w:World} {u:Value} {g n cap H:Nat} (h:u.ownBlock=some g ∨ g=H) (hH:w.heap.size≤H):Lies w u (.slice (some ⟨g,0,none⟩) n cap):=by
  rcases h with h | h
  · exact .inl (by rw [h];rfl)
  · exact .inr ⟨g,rfl,by omega⟩
theorem wrap_neg (m:Int) (h1:1≤m) (h2:m≤100000001):IntKind.i64.wrap (-m)=-m:=by
  rw [IntKind.wrap_i64];omega
theorem set_full {α:Type} (xs:List α) (u:α) (k:Nat) (h:k < xs.length):(List.replicate k u ++ xs.drop k).set k u=List.replicate (k + 1) u ++ xs.drop (k + 1):=by
  rw [List.set_append_right _ _ (by simp)]
  simp only [List.length_replicate,Nat.sub_self]
  rw [List.drop_eq_getElem_cons h,List.set_cons_zero,List.replicate_succ',List.append_assoc]
  rfl
theorem own_cell1 {w:World} {b e n g cap:Nat} {xs:List Value} (h:w.ownsRow b e 1 (.slice (some ⟨g,0,none⟩) n cap) n xs) {k:Nat} {u:Value} (hu:xs[k]?=some u):w.cell? ⟨g,k,none⟩=some u:=by
  have:=h.cells (g:=g) rfl k u hu
  have hadd:(⟨g,0,none⟩:Addr).add k=⟨g,k,none⟩:=by unfold Addr.add;split <;> simp_all
  rw [hadd] at this
  exact this
end Go.Proofs.YtpgcidpghmoibaaGreatDoor
