/-
  THE LONGEST MATCH, without the program
  TEXTS THAT ARE CUT, without the program
  THE WALK of the program's Units
  THE RULES AS STATES, without the program
-/
import Derived.Test.YtpgcidpghmoibaaGreatDoorK19
import Derived.Test.YtpgcidpghmoibaaGreatDoorK01
import Derived.Test.YtpgcidpghmoibaaGreatDoorRows
import Derived.WalkKit
import Derived.WalkSpells
import Derived.WalkLawsBesides
import Derived.WalkSmall
import Derived.Deep.AppendLies
import Derived.Test.YtpgcidpghmoibaaGreatDoorK08
namespace Go.Proofs.YtpgcidpghmoibaaGreatDoor
namespace G
def Long (T:List PNode) (Q:List Nat) (us:List Int) (n:Nat) (rule:Int):Prop:=
  (n=0∧rule=-1∧∀ q ∈ Q,∀ m,0 < m→m≤us.length→¬ lang T q (us.take m)) ∨
  (0 < n∧n≤us.length∧∃ j q:Nat,rule=(j:Int)∧Q[j]?=some q∧lang T q (us.take n)∧(∀ q' ∈ Q,∀ m,n < m→m≤us.length→¬ lang T q' (us.take m))∧∀ i q':Nat,i < j→Q[i]?=some q'→¬ lang T q' (us.take n))
theorem Long.le {T:List PNode} {Q:List Nat} {us:List Int} {n:Nat} {r:Int} (h:Long T Q us n r):n≤us.length:=by
  rcases h with ⟨rfl,_⟩ | ⟨_,h,_⟩
  · exact Nat.zero_le _
  · exact h
theorem Long.one {T:List PNode} {Q:List Nat} {us:List Int} {n n':Nat} {r r':Int} (h:Long T Q us n r) (g:Long T Q us n' r'):n=n'∧r=r':=by
  rcases h with ⟨h1,h2,h3⟩ | ⟨h1,h2,j,q,h3,h4,h5,h6,h7⟩
  · rcases g with ⟨g1,g2,g3⟩ | ⟨g1,g2,i,p,g3,g4,g5,g6,g7⟩
    · exact ⟨by omega,by omega⟩
    · exact absurd g5 (h3 p (List.mem_of_getElem? g4) n' g1 g2)
  · rcases g with ⟨g1,g2,g3⟩ | ⟨g1,g2,i,p,g3,g4,g5,g6,g7⟩
    · exact absurd h5 (g3 q (List.mem_of_getElem? h4) n h1 h2)
    · have hn:n=n':=by
        rcases Nat.lt_trichotomy n n' with e | e | e
        · exact absurd g5 (h6 p (List.mem_of_getElem? g4) n' e g2)
        · exact e
        · exact absurd h5 (g6 q (List.mem_of_getElem? h4) n e h2)
      subst hn
      refine ⟨rfl,?_⟩
      rcases Nat.lt_trichotomy i j with e | e | e
      · exact absurd g5 (h7 i p e g4)
      · omega
      · exact absurd h5 (g7 j q e h4)
def LongTo (T:List PNode) (Q:List Nat) (us:List Int) (k n:Nat) (rule:Int):Prop:=Long T (Q.take k) us n rule
theorem LongTo.zero (T:List PNode) (Q:List Nat) (us:List Int):LongTo T Q us 0 0 (-1):=.inl ⟨rfl,rfl,fun q hq=>by simp at hq⟩
theorem LongTo.all {T:List PNode} {Q:List Nat} {us:List Int} {n:Nat} {r:Int} (h:LongTo T Q us Q.length n r):Long T Q us n r:=by
  unfold LongTo at h
  rwa [List.take_length] at h
theorem mem_take_succ {Q:List Nat} {k q:Nat} (hq:Q[k]?=some q) {p:Nat} (hp:p ∈ Q.take (k + 1)):p ∈ Q.take k ∨ p=q:=by
  rw [List.take_add_one,hq] at hp
  simpa using hp
theorem LongTo.more {T:List PNode} {Q:List Nat} {us:List Int} {k n m q:Nat} {r:Int} (h:LongTo T Q us k n r) (hq:Q[k]?=some q) (hm:m≤us.length) (hok:lang T q (us.take m)) (htop:∀ m',m < m'→m'≤us.length→¬ lang T q (us.take m')) (hlt:n < m):LongTo T Q us (k + 1) m (k:Int):=by
  have hk:k < Q.length:=(List.getElem?_eq_some_iff.1 hq).1
  have hno:∀ p ∈ Q.take k,∀ m',n < m'→m'≤us.length→¬ lang T p (us.take m'):=by
    intro p hp m' h1 h2
    rcases h with ⟨_,_,h3⟩ | ⟨_,_,_,_,_,_,_,h6,_⟩
    · exact h3 p hp m' (by omega) h2
    · exact h6 p hp m' h1 h2
  refine .inr ⟨by omega,hm,k,q,rfl,by rw [List.getElem?_take_of_lt (by omega)];exact hq,hok,fun p hp m' h1 h2=>?_,fun i p hi hp=>?_⟩
  · rcases mem_take_succ hq hp with hp | rfl
    · exact hno p hp m' (by omega) h2
    · exact htop m' h1 h2
  · rw [List.getElem?_take_of_lt (by omega)] at hp
    exact hno p (List.mem_take_iff_getElem.2 ⟨i,by have:=(List.getElem?_eq_some_iff.1 hp).1;omega,(List.getElem?_eq_some_iff.1 hp).2⟩) m hlt hm
theorem LongTo.less {T:List PNode} {Q:List Nat} {us:List Int} {k n q:Nat} {r:Int} (h:LongTo T Q us k n r) (hq:Q[k]?=some q) (htop:∀ m',n < m'→m'≤us.length→¬ lang T q (us.take m')):LongTo T Q us (k + 1) n r:=by
  have hk:k < Q.length:=(List.getElem?_eq_some_iff.1 hq).1
  rcases h with ⟨h1,h2,h3⟩ | ⟨h1,h2,j,p,h3,h4,h5,h6,h7⟩
  · refine .inl ⟨h1,h2,fun p hp m a b=>?_⟩
    rcases mem_take_succ hq hp with hp | rfl
    · exact h3 p hp m a b
    · exact htop m (by omega) b
  · have hj:j < k:=by
      have:=(List.getElem?_eq_some_iff.1 h4).1
      simp at this
      omega
    have e:∀ i,i < k→(Q.take (k + 1))[i]?=(Q.take k)[i]?:=fun i hi=>by rw [List.getElem?_take_of_lt (by omega),List.getElem?_take_of_lt hi]
    refine .inr ⟨h1,h2,j,p,h3,by rw [e j hj];exact h4,h5,fun p' hp m a b=>?_,fun i p' hi hp=>?_⟩
    · rcases mem_take_succ hq hp with hp | rfl
      · exact h6 p' hp m a b
      · exact htop m a b
    · exact h7 i p' hi (by rw [← e i (by omega)];exact hp)
end G
end Go.Proofs.YtpgcidpghmoibaaGreatDoor

namespace Go.Proofs.YtpgcidpghmoibaaGreatDoor
namespace G
def us (s:ByteArray):List Int:=(U.units s).map fun x=>(x.1:Int)
theorem us_len (s:ByteArray):(us s).length=(U.units s).length:=by simp [us]
def edgeF (s:ByteArray) (p k:Nat):Nat:=match (U.rest s p)[k]? with | some x=>x.2 | none=>s.size
def edge (s:ByteArray) (k:Nat):Nat:=edgeF s 0 k
theorem edgeF_zero (s:ByteArray) (p:Nat) (h:p≤s.size):edgeF s p 0=p:=by
  unfold edgeF
  by_cases hp:p < s.size
  · rw [U.rest_step s p hp];rfl
  · rw [U.rest_end s p (by omega)]
    show s.size=p
    omega
theorem edgeF_succ (s:ByteArray) (p k:Nat) (h:p < s.size):edgeF s p (k + 1)=edgeF s (p + (Utf8.decode s p).2) k:=by
  unfold edgeF
  rw [U.rest_step s p h]
  rfl
theorem edgeF_end (s:ByteArray) (p k:Nat) (h:(U.rest s p).length≤k):edgeF s p k=s.size:=by
  unfold edgeF
  rw [List.getElem?_eq_none h]
theorem edgeF_lt (s:ByteArray):∀ (k p:Nat),p≤s.size→k < (U.rest s p).length→edgeF s p k < edgeF s p (k + 1)∧edgeF s p (k + 1)≤s.size
  | k,p,h,hk=>by
    have hp:p < s.size:=by
      rcases Nat.lt_or_ge p s.size with e | e
      · exact e
      · rw [U.rest_end s p e] at hk;simp at hk
    have hw:=U.width s p hp
    cases k with
    | zero =>
      rw [edgeF_zero s p h,edgeF_succ s p 0 hp,edgeF_zero s _ hw.2]
      omega
    | succ k =>
      rw [U.rest_step s p hp] at hk
      rw [edgeF_succ s p k hp,edgeF_succ s p (k + 1) hp]
      exact edgeF_lt s k _ hw.2 (by simpa using hk)
theorem edge_zero (s:ByteArray):edge s 0=0:=edgeF_zero s 0 (Nat.zero_le _)
theorem edge_lt (s:ByteArray) (k:Nat) (h:k < (us s).length):edge s k < edge s (k + 1):=(edgeF_lt s k 0 (Nat.zero_le _) (by rw [us_len] at h;exact h)).1
theorem edge_end (s:ByteArray) (k:Nat) (h:(us s).length≤k):edge s k=s.size:=edgeF_end s 0 k (by rw [us_len] at h;exact h)
theorem edge_of {s:ByteArray} {k:Nat} {x:Nat × Nat} (h:(U.units s)[k]?=some x):edge s k=x.2:=by
  unfold edge edgeF
  have h':(U.rest s 0)[k]?=some x:=h
  rw [h']
theorem edge_le (s:ByteArray):∀ (d k:Nat),edge s k≤edge s (k + d)
  | 0,_=>Nat.le_refl _
  | d + 1,k=>by
    have ih:=edge_le s d k
    rcases Nat.lt_or_ge (k + d) (us s).length with e | e
    · have:=edge_lt s (k + d) e
      rw [show k + (d + 1)=k + d + 1 by omega]
      omega
    · rw [edge_end s (k + (d + 1)) (by omega),← edge_end s (k + d) e]
      exact ih
theorem edge_mono (s:ByteArray) {k m:Nat} (h:k≤m):edge s k≤edge s m:=by
  have:=edge_le s (m - k) k
  rwa [Nat.add_sub_cancel' h] at this
theorem edge_strict (s:ByteArray) {k m:Nat} (h:k < m) (hm:m≤(us s).length):edge s k < edge s m:=
  Nat.lt_of_lt_of_le (edge_lt s k (by omega)) (edge_mono s h)
def UnitAt (s:ByteArray) (at_:Int) (k:Nat):Prop:=k≤(us s).length∧(∀ j,1≤j→j≤k→(edge s j:Int)≤at_)∧(k < (us s).length→at_ < (edge s (k + 1):Int))
theorem UnitAt.one {s:ByteArray} {a:Int} {k k':Nat} (h:UnitAt s a k) (g:UnitAt s a k'):k=k':=by
  rcases Nat.lt_trichotomy k k' with e | e | e
  · have h1:=h.2.2 (by have:=g.1;omega)
    have h2:=g.2.1 (k + 1) (by omega) (by omega)
    omega
  · exact e
  · have h1:=g.2.2 (by have:=h.1;omega)
    have h2:=h.2.1 (k' + 1) (by omega) (by omega)
    omega
structure Seg where
  f:Nat
  t:Nat
  r:Int
inductive CutR (T:List PNode) (Q:List Nat) (s:ByteArray):Nat→List Seg→Prop
  | done {k}:k=(us s).length→CutR T Q s k []
  | cons {k n r l}:k < (us s).length→Long T Q ((us s).drop k) n r→CutR T Q s (k + max n 1) l→CutR T Q s k (⟨edge s k,edge s (k + max n 1),r⟩ :: l)
theorem CutR.one {T:List PNode} {Q:List Nat} {s:ByteArray} {k:Nat} {l:List Seg} (h:CutR T Q s k l):∀ {l'},CutR T Q s k l'→l=l':=by
  induction h with
  | done h =>
    intro l' g
    cases g with
    | done=>rfl
    | cons g1=>omega
  | cons h1 h2 _ ih =>
    intro l' g
    cases g with
    | done g=>omega
    | cons g1 g2 g3 =>
      obtain ⟨rfl,rfl⟩:=h2.one g2
      rw [ih g3]
def CutTo (T:List PNode) (Q:List Nat) (s:ByteArray) (k:Nat) (l:List Seg):Prop:=k≤(us s).length∧l.length≤k∧∀ m,CutR T Q s k m→CutR T Q s 0 (l ++ m)
theorem CutTo.zero (T:List PNode) (Q:List Nat) (s:ByteArray):CutTo T Q s 0 []:=⟨Nat.zero_le _,Nat.le_refl _,fun _ h=>h⟩
theorem CutTo.step {T:List PNode} {Q:List Nat} {s:ByteArray} {k n:Nat} {r:Int} {l:List Seg} (h:CutTo T Q s k l) (hk:k < (us s).length) (hl:Long T Q ((us s).drop k) n r):CutTo T Q s (k + max n 1) (l ++ [⟨edge s k,edge s (k + max n 1),r⟩]):=by
  have hle:=hl.le
  rw [List.length_drop] at hle
  refine ⟨by omega,by have:=h.2.1;simp;omega,fun m hm=>?_⟩
  rw [List.append_assoc]
  exact h.2.2 _ (.cons hk hl hm)
theorem CutTo.done {T:List PNode} {Q:List Nat} {s:ByteArray} {k:Nat} {l:List Seg} (h:CutTo T Q s k l) (hk:¬ k < (us s).length):CutR T Q s 0 l:=by
  have:=h.2.2 [] (.done (by have:=h.1;omega))
  simpa using this
end G
end Go.Proofs.YtpgcidpghmoibaaGreatDoor

namespace Go.Proofs.YtpgcidpghmoibaaGreatDoor
open Go.RowKit
theorem infoInt:(Tryz.prog.info? 3).map (fun i=>(i.zero,i.size,i.bytes))=some (some (.int .i64 0),1,8):=by kernel_rfl
theorem infoI32:(Tryz.prog.info? 21).map (fun i=>(i.zero,i.size,i.bytes))=some (some (.int .i32 0),1,4):=by kernel_rfl
set_option maxRecDepth 100000 in
set_option maxHeartbeats 400000 in
theorem units_long (s:ByteArray) (w:World) (h:1000 < s.size) (_hs:s.size≤maxLen) :
    Calls Tryz.prog 24 #[.string s] w fun e w'=>e=.returned (.tuple #[.slice none 0 0,.slice none 0 0,.int .i64 1])∧w'=w:=by
  go_enter Tryz.func24,Tryz.ntmps24
  go_wp2
  go_ret3
  exact ⟨rfl,rfl⟩
theorem apart_of_types {w:World} {b b':Nat} {e e':TypeId} {v v':Value} {n n':Nat} {xs xs':List Value} (h:w.ownsRow b e 1 v n xs) (h':w.ownsRow b' e' 1 v' n' xs') (hne:e ≠ e'):v'.ownBlock=none ∨ v'.ownBlock ≠ v.ownBlock:=by
  rcases h'.2 with ⟨rfl,_⟩ | ⟨g',_,cur',rfl,_,hg',_⟩
  · exact .inl rfl
  · rcases h.2 with ⟨rfl,_⟩ | ⟨g,_,cur,rfl,_,hg,_⟩
    · right;simp [Value.ownBlock]
    · right
      intro e1
      simp only [Value.ownBlock,Option.some.injEq] at e1
      subst e1
      rw [hg'] at hg
      simp only [Option.some.injEq,Obj.cells.injEq] at hg
      exact hne hg.2.1.symm
theorem after_append {w W w2:World} {B:Nat} {o it:Obj} {v:Value} (hg:(W.alloc o).grownBy w2 v.ownBlock) (hv:∀ k,v.ownBlock=some k→B + 1≤k∧k < W.heap.size) (hit:W.heap[B]?=some it) (hbw:Below B w W) :
    w2.heap[B]?=some it∧Below B w w2∧W.heap.size + 1≤w2.heap.size:=by
  have hlt:=lt_of_block hit
  refine ⟨?_,Below.grown (hbw.alloc (by omega) _) hg (by simp;omega) (fun k hk=>by have:=(hv k hk).1;omega),by have:=hg.size;simpa using this⟩
  rw [hg.block B (by simp;omega) (fun h=>by have:=(hv _ h.symm).1;omega),Below.heap_alloc _ _ _ hlt]
  exact hit
theorem runes32_snoc (l:List (Nat × Nat)) (x:Nat × Nat):U.runes32 (l ++ [x])=U.runes32 l ++ [.int .i32 x.1]:=by simp [U.runes32]
theorem runes64_snoc (l:List (Nat × Nat)) (x:Nat × Nat):U.runes64 (l ++ [x])=U.runes64 l ++ [.int .i64 x.1]:=by simp [U.runes64]
theorem starts64_snoc (l:List (Nat × Nat)) (x:Nat × Nat):U.starts64 (l ++ [x])=U.starts64 l ++ [.int .i64 x.2]:=by simp [U.starts64]
set_option maxRecDepth 100000 in
set_option maxHeartbeats 1000000 in
theorem units_short (s:ByteArray) (w:World) (h:s.size≤1000) :
    Calls Tryz.prog 24 #[.string s] w fun e w'=>∃ v1 v2,e=.returned (.tuple #[v1,v2,.int .i64 0]) ∧
      w'.ownsRow (w.heap.size + 1) 21 1 v1 (U.units s).length (U.runes32 (U.units s))∧w'.ownsRow (w.heap.size + 1) 3 1 v2 (U.units s).length (U.starts64 (U.units s))∧Below w.heap.size w w':=by
  obtain ⟨i0,hi,hz0,hz1,hz2⟩:=info_parts infoInt
  obtain ⟨j0,hj,hy0,hy1,hy2⟩:=info_parts infoI32
  go_enter Tryz.func24,Tryz.ntmps24
  go_wp2
  go_loopw [5,6] (fun v1 v2 wr=>∃ (pos:Nat) (l:List (Nat × Nat)),wr.heap[w.heap.size]?=some (.stringIter s pos)∧wr.ownsRow (w.heap.size + 1) 21 1 v1 l.length (U.runes32 l)∧wr.ownsRow (w.heap.size + 1) 3 1 v2 l.length (U.starts64 l)∧Below w.heap.size w wr∧U.Upto s pos l)
    (fun _ _ wr=>s.size - wr.iterPos w.heap.size)
  case atStart=>exact ⟨0,[],World.iter_heap w s 0,World.ownsRow_nil _ _ _ _,World.ownsRow_nil _ _ _ _,(Below.refl _ _).alloc (Nat.le_refl _) _,U.Upto.zero s⟩
  case round =>
    obtain ⟨pos,l,hit,hown1,hown2,hbw,hup⟩:=hrel
    have hpos0:=iterPos_of hit
    have hl:=hup.length
    have hle:=hup.1
    have HU:Hid (U.Upto s pos l):=hup
    clear hup
    by_cases hp:pos < s.size
    · have hnx:∀ ty,(Instr.next (.pointer (some ⟨w.heap.size,0,none⟩)) true ty).run Tryz.prog wr=_:=fun ty=>Lib.run_next_any_at wr w.heap.size s pos ty hit hp
      have hwd:=U.width s pos hp
      have hit2:=Lib.iterAt_heap wr w.heap.size s pos (pos + (Utf8.decode s pos).2) hit
      have hbw2:=Lib.below_iterAt hbw (k:=w.heap.size) (Nat.le_refl _) s (pos + (Utf8.decode s pos).2)
      have ho1:=ownsRow_iterAt hown1 (k:=w.heap.size) (by omega) s (pos + (Utf8.decode s pos).2)
      have ho2:=ownsRow_iterAt hown2 (k:=w.heap.size) (by omega) s (pos + (Utf8.decode s pos).2)
      obtain ⟨W1,hW1⟩:∃ W1,W1=wr.iterAt w.heap.size s (pos + (Utf8.decode s pos).2):=⟨_,rfl⟩
      rw [← hW1] at hnx hit2 hbw2 ho1 ho2
      have hBlt:=lt_of_block hit2
      clear hW1 hit hown1 hown2 hbw
      go_wp2_with (first
        | (at_builtin;refine wpList_append_own _ rfl (.tmp 18) (.tmp 20) 49 rfl (w.heap.size + 1) 21 j0 (.int .i32 0) 1 4 Tryz.underlying49 hj hy0 hy1 hy2 rfl (by decide) _ _ _ rfl (ho1.alloc _) ⟨W1.heap.size,0,none⟩ 1 1 [.int .i32 ((Utf8.decode s pos).1:Int)] rfl rfl (cell_one_new _ _ _) (fun x hx=>by simp at hx;subst hx;rfl) (by unfold maxLen;omega) (by omega) (by simp;omega) ?_
           intro v1 w2 hn1 hg1 _
           have A1:=after_append hg1 (fun k hk=>ho1.lt k hk) hit2 hbw2
           have k2:w2.ownsRow (w.heap.size + 1) 3 1 u6 l.length (U.starts64 l):=(ho2.alloc _).kept hg1 (apart_of_types ho1 ho2 (by decide))
           have hs2:=A1.2.2
           have X1:Hid (w2.ownsRow (w.heap.size + 1) 21 1 v1 (l.length + 1) (U.runes32 l ++ [.int .i32 ((Utf8.decode s pos).1:Int)])∧w2.heap[w.heap.size]?=some (.stringIter s (pos + (Utf8.decode s pos).2))∧Below w.heap.size w w2):=⟨hn1,A1.1,A1.2.1⟩
           clear hn1 hg1 A1 ho1 ho2 hit2 hbw2 hnx)
        | (at_builtin;refine wpList_append_own _ rfl (.tmp 22) (.tmp 24) 33 rfl (w.heap.size + 1) 3 i0 (.int .i64 0) 1 8 Tryz.underlying33 hi hz0 hz1 hz2 rfl (by decide) _ _ _ rfl (k2.alloc _) ⟨w2.heap.size,0,none⟩ 1 1 [.int .i64 (pos:Int)] rfl rfl (cell_one_new _ _ _) (fun x hx=>by simp at hx;subst hx;rfl) (by unfold maxLen;omega) (by omega) (by simp;omega) ?_
           intro v2 w3 hn2 hg2 _
           have A2:=after_append hg2 (fun k hk=>k2.lt k hk) X1.out.2.1 X1.out.2.2
           have k1:w3.ownsRow (w.heap.size + 1) 21 1 v1 (l.length + 1) (U.runes32 l ++ [.int .i32 ((Utf8.decode s pos).1:Int)]):=(X1.out.1.alloc _).kept hg2 (apart_of_types k2 X1.out.1 (by decide))
           have X2:Hid (w3.ownsRow (w.heap.size + 1) 21 1 v1 (l.length + 1) (U.runes32 l ++ [.int .i32 ((Utf8.decode s pos).1:Int)])∧w3.ownsRow (w.heap.size + 1) 3 1 v2 (l.length + 1) (U.starts64 l ++ [.int .i64 (pos:Int)])∧w3.heap[w.heap.size]?=some (.stringIter s (pos + (Utf8.decode s pos).2))∧Below w.heap.size w w3):=⟨k1,hn2,A2.1,A2.2.1⟩
           clear hn2 hg2 A2 k1 k2 X1))
      go_roundw
      case rel =>
        refine ⟨_,l ++ [((Utf8.decode s pos).1,pos)],X2.out.2.2.1,?_,?_,X2.out.2.2.2,HU.out.step hp⟩
        · rw [runes32_snoc,List.length_append];exact X2.out.1
        · rw [starts64_snoc,List.length_append];exact X2.out.2.1
      case measure=>rw [iterPos_of X2.out.2.2.1,hpos0];omega
    · have hnx:∀ ty,(Instr.next (.pointer (some ⟨w.heap.size,0,none⟩)) true ty).run Tryz.prog wr=_:=fun ty=>Lib.run_next_end_at wr w.heap.size s pos ty hit hp
      have E:=HU.out.done (by omega)
      subst E
      clear hl
      go_wp2
      go_ret3
      exact ⟨_,_,rfl,hown1,hown2,hbw⟩
end Go.Proofs.YtpgcidpghmoibaaGreatDoor

namespace Go.Proofs.YtpgcidpghmoibaaGreatDoor
namespace Rf
open G (PNode Lang)
inductive Run (T:List PNode) (S:List PState):Nat→Nat→List Int→Nat→Prop
  | here {s}:Run T S 0 s [] s
  | free {k s t u e x}:S[s]?=some x→x.node < 0→t ∈ x.next→Run T S k t u e→Run T S (k + 1) s u e
  | eat {k s t c u e x n y}:S[s]?=some x→x.node=((n:Nat):Int)→T[n]?=some y→x.next[0]?=some t→G.inV y c=true→Run T S k t u e→Run T S (k + 1) s (c :: u) e
variable {T:List PNode} {S:List PState}
theorem Run.append {k s:Nat} {u:List Int} {m:Nat} (h:Run T S k s u m) {k':Nat} {v:List Int} {e:Nat} (g:Run T S k' m v e):Run T S (k' + k) s (u ++ v) e:=by
  induction h with
  | here=>simpa using g
  | free h1 h2 h3 _ ih=>exact .free h1 h2 h3 (ih g)
  | eat h1 h2 h3 h4 h5 _ ih=>exact .eat h1 h2 h3 h4 h5 (ih g)
theorem Run.split {k s:Nat} {w:List Int} {e:Nat} (h:Run T S k s w e):∀ u v,w=u ++ v→∃ m k1 k2,Run T S k1 s u m∧Run T S k2 m v e:=by
  induction h with
  | here =>
    intro u v hw
    have:u=[]∧v=[]:=by simpa using hw.symm
    obtain ⟨rfl,rfl⟩:=this
    exact ⟨_,0,0,.here,.here⟩
  | free h1 h2 h3 _ ih =>
    intro u v hw
    obtain ⟨m,k1,k2,g1,g2⟩:=ih u v hw
    exact ⟨m,_,k2,.free h1 h2 h3 g1,g2⟩
  | @eat k s t c w e x n y h1 h2 h3 h4 h5 h6 ih =>
    intro u v hw
    cases u with
    | nil =>
      have hv:v=c :: w:=by simpa using hw.symm
      subst hv
      exact ⟨s,0,_,.here,.eat h1 h2 h3 h4 h5 h6⟩
    | cons a u =>
      simp only [List.cons_append,List.cons.injEq] at hw
      obtain ⟨rfl,hw⟩:=hw
      obtain ⟨m,k1,k2,g1,g2⟩:=ih u v hw
      exact ⟨m,_,k2,.eat h1 h2 h3 h4 h5 g1,g2⟩
structure Con (T:List PNode) (S:List PState) (A:Lang) (s to lo hi:Nat):Prop where
  comp:∀ u,A u→∃ k,Run T S k s u to
  sound:∀ k u e,(e < lo ∨ hi≤e)→Run T S k s u e→∃ k' u1 u2,k'≤k∧u=u1 ++ u2∧A u1∧Run T S k' to u2 e
theorem Con.wide {A:Lang} {s to lo hi lo' hi':Nat} (h:Con T S A s to lo hi) (h1:lo'≤lo) (h2:hi≤hi'):Con T S A s to lo' hi':=
  ⟨h.comp,fun k u e he=>h.sound k u e (by omega)⟩
theorem Con.eps (s lo hi:Nat):Con T S Lang.eps s s lo hi:=
  ⟨fun u hu=>⟨0,by rw [show u=[] from hu];exact .here⟩,fun k u e _ h=>⟨k,[],u,Nat.le_refl _,rfl,rfl,h⟩⟩
theorem Con.cat {A B:Lang} {s m to lo hi:Nat} (h:Con T S A s m lo hi) (g:Con T S B m to lo hi):Con T S (Lang.cat A B) s to lo hi:=by
  constructor
  · rintro w ⟨u,v,rfl,hu,hv⟩
    obtain ⟨k1,h1⟩:=h.comp u hu
    obtain ⟨k2,h2⟩:=g.comp v hv
    exact ⟨_,h1.append h2⟩
  · intro k w e he hr
    obtain ⟨k1,u1,u2,hk1,rfl,hA,hr1⟩:=h.sound k w e he hr
    obtain ⟨k2,v1,v2,hk2,rfl,hB,hr2⟩:=g.sound k1 u2 e he hr1
    exact ⟨k2,u1 ++ v1,v2,by omega,by simp,⟨u1,v1,rfl,hA,hB⟩,hr2⟩
theorem run_free {s:Nat} {l:List Nat} (hs:S[s]?=some ⟨-1,l⟩) {t:Nat} (ht:t ∈ l) {k:Nat} {u:List Int} {e:Nat} (h:Run T S k t u e):Run T S (k + 1) s u e:=
  .free hs (by show (-1:Int) < 0;omega) ht h
theorem run_free_inv {s:Nat} {l:List Nat} (hs:S[s]?=some ⟨-1,l⟩) {k:Nat} {u:List Int} {e:Nat} (h:Run T S k s u e) (hne:s ≠ e):∃ k' t,k=k' + 1∧t ∈ l∧Run T S k' t u e:=by
  cases h with
  | here=>exact absurd rfl hne
  | free h1 h2 h3 h4 =>
    rw [hs] at h1
    simp only [Option.some.injEq] at h1
    subst h1
    exact ⟨_,_,rfl,h3,h4⟩
  | eat h1 h2 =>
    rw [hs] at h1
    simp only [Option.some.injEq] at h1
    subst h1
    exact absurd h2 (by show ¬ (-1:Int)=_;omega)
theorem Con.opt {A:Lang} {s p to lo hi:Nat} (h:Con T S A p to lo hi) (hs:S[s]?=some ⟨-1,[p,to]⟩) (h1:lo≤s) (h2:s < hi):Con T S (Lang.opt A) s to lo hi:=by
  constructor
  · rintro u (rfl | hu)
    · exact ⟨_,run_free hs (by simp) .here⟩
    · obtain ⟨k,hk⟩:=h.comp u hu
      exact ⟨_,run_free hs (by simp) hk⟩
  · intro k u e he hr
    obtain ⟨k',t,rfl,ht,hr'⟩:=run_free_inv hs hr (by omega)
    simp only [List.mem_cons,List.not_mem_nil,or_false] at ht
    rcases ht with rfl | rfl
    · obtain ⟨k1,u1,u2,hk1,rfl,hA,hr1⟩:=h.sound k' u e he hr'
      exact ⟨k1,u1,u2,by omega,rfl,.inr hA,hr1⟩
    · exact ⟨k',[],u,by omega,rfl,.inl rfl,hr'⟩
theorem Con.star {A:Lang} {a p to lo hi:Nat} (h:Con T S A p a (lo + 1) hi) (hs:S[a]?=some ⟨-1,[p,to]⟩) (ha:a=lo) (h2:a < hi):Con T S (Lang.star A) a to lo hi:=by
  subst ha
  constructor
  · intro u hu
    induction hu with
    | nil=>exact ⟨_,run_free hs (by simp) .here⟩
    | @cons u v hA _ ih =>
      obtain ⟨k1,r1⟩:=h.comp u hA
      obtain ⟨k2,r2⟩:=ih
      exact ⟨_,run_free hs (t:=p) (by simp) (r1.append r2)⟩
  · intro k
    induction k using Nat.strongRecOn with
    | ind k ih =>
      intro u e he hr
      obtain ⟨k',t,rfl,ht,hr'⟩:=run_free_inv hs hr (by omega)
      simp only [List.mem_cons,List.not_mem_nil,or_false] at ht
      rcases ht with rfl | rfl
      · obtain ⟨k1,u1,u2,hk1,rfl,hA,hr1⟩:=h.sound k' u e (by omega) hr'
        obtain ⟨k2,v1,v2,hk2,rfl,hB,hr2⟩:=ih k1 (by omega) u2 e he hr1
        exact ⟨k2,u1 ++ v1,v2,by omega,by simp,.cons hA hB,hr2⟩
      · exact ⟨k',[],u,by omega,rfl,.nil,hr'⟩
theorem Con.one {x:PNode} {s n to lo hi:Nat} (hs:S[s]?=some ⟨(n:Int),[to]⟩) (hx:T[n]?=some x) (h1:lo≤s) (h2:s < hi):Con T S (Lang.one x) s to lo hi:=by
  constructor
  · rintro u ⟨c,rfl,hc⟩
    exact ⟨_,.eat hs rfl hx rfl hc .here⟩
  · intro k u e he hr
    cases hr with
    | here=>omega
    | free g1 g2 =>
      rw [hs] at g1
      simp only [Option.some.injEq] at g1
      subst g1
      exact absurd g2 (by show ¬ (n:Int) < 0;omega)
    | @eat k _ t c u _ x' n' y g1 g2 g3 g4 g5 g6 =>
      rw [hs] at g1
      simp only [Option.some.injEq] at g1
      subst g1
      have e1:n=n':=by have:(n:Int)=(n':Int):=g2;omega
      subst e1
      rw [hx] at g3
      simp only [Option.some.injEq] at g3
      subst g3
      have e2:to=t:=by simpa using g4
      subst e2
      exact ⟨k,[c],u,by omega,rfl,⟨c,rfl,g5⟩,g6⟩
def Ok (T:List PNode) (S:List PState) (mt:MT) (to:Nat) (L:List PState) (r:MR) (L':List PState):Prop:=match mt,r with
  | .node n,.one s=>Con T S (G.lang T n) s to L.length L'.length
  | .seq ps,.one s=>Con T S (Lang.seq (ps.reverse.map (G.lang T))) s to L.length L'.length
  | .alt ps acc,.many l=>∃ m,l=acc ++ m∧(∀ u,Lang.alt (ps.map (G.lang T)) u→∃ t ∈ m,∃ k,Run T S k t u to) ∧
      ∀ t ∈ m,∀ k u e,(e < L.length ∨ L'.length≤e)→Run T S k t u e→∃ k' u1 u2,k'≤k∧u=u1 ++ u2∧Lang.alt (ps.map (G.lang T)) u1∧Run T S k' to u2 e
  | _,_=>False
theorem Md.ok (hT:G.WF T) {mt:MT} {to:Nat} {L L':List PState} {r:MR} (h:Md T mt to L r L'):mt.Fit T L.length→to < L.length→(∀ i,L.length≤i→i < L'.length→S[i]?=L'[i]?)→Ok T S mt to L r L':=by
  induction h with
  | @set n to L x hx hk =>
    intro hf ht hS
    have h1:=hS L.length (Nat.le_refl _) (by simp)
    rw [List.getElem?_append_right (Nat.le_refl _)] at h1
    simp only [Nat.sub_self,List.getElem?_cons_zero] at h1
    show Con T S (G.lang T n) L.length to L.length _
    rw [← G.lang_bare hT n,G.lang_set hT hx hk]
    exact Con.one h1 hx (Nat.le_refl _) (by simp)
  | @seq n to L x r L' hx hk hm ih =>
    intro hf ht hS
    have hle:=G.bare_le hT n
    have hps:∀ p ∈ x.parts.reverse,p < T.length:=fun p hp=>by
      have:=(hT _ x hx).parts p (by simpa using hp)
      have hf':n < T.length:=hf
      omega
    have h1:=ih hps ht hS
    cases r with
    | many l=>exact absurd h1 (by simp [Ok])
    | one s =>
      show Con T S (G.lang T n) s to L.length L'.length
      rw [← G.lang_bare hT n,G.lang_seq hT hx hk]
      simpa [Ok] using h1
  | seqNil =>
    intro _ ht _
    exact Con.eps _ _ _
  | @seqCons p ps to L t1 L1 r L2 hm1 hm2 ih1 ih2 =>
    intro hf ht hS
    have f1:=hm1.fine hT (hf p (by simp)) ht
    have f2:=hm2.fine hT (fun q hq=>hf q (by simp [hq])) f1.2.1
    have i1:Con T S _ t1 to L.length L1.length:=ih1 (hf p (by simp)) ht (fun i h1 h2=>by rw [hS i h1 (by omega)];exact f2.2.2.2 i h2)
    have i2:=ih2 (fun q hq=>hf q (by simp [hq])) f1.2.1 (fun i h1 h2=>hS i (by omega) h2)
    cases r with
    | many l=>exact absurd i2 (by simp [Ok])
    | one s =>
      show Con T S _ s to L.length L2.length
      have i2':Con T S _ s t1 L1.length L2.length:=i2
      rw [List.reverse_cons,List.map_append,Lang.seq_append]
      have e:Lang.seq (List.map (G.lang T) [p])=G.lang T p:=Lang.seq_one _
      rw [e]
      exact (i2'.wide f1.1 (Nat.le_refl _)).cat (i1.wide (Nat.le_refl _) f2.1)
  | @alt n to L x l L' hx hk hm ih =>
    intro hf ht hS
    have hle:=G.bare_le hT n
    have hps:∀ p ∈ x.parts,p < T.length:=fun p hp=>by
      have:=(hT _ x hx).parts p hp
      have hf':n < T.length:=hf
      omega
    have hfit:(MT.alt x.parts []).Fit T L.length:=⟨hps,fun a ha=>by simp at ha⟩
    have f1:=hm.fine hT hfit ht
    obtain ⟨m,hlm,i1,i2⟩:=ih hfit ht (fun i h1 h2=>by rw [hS i h1 (by simp;omega),List.getElem?_append_left h2])
    have hlm':m=l:=by simpa using hlm.symm
    subst hlm'
    have hs:=hS L'.length f1.1 (by simp)
    rw [List.getElem?_append_right (Nat.le_refl _)] at hs
    simp only [Nat.sub_self,List.getElem?_cons_zero] at hs
    show Con T S (G.lang T n) L'.length to L.length _
    rw [← G.lang_bare hT n,G.lang_alt hT hx hk]
    constructor
    · intro u hu
      obtain ⟨t,ht',k,hr⟩:=i1 u hu
      exact ⟨_,run_free hs ht' hr⟩
    · intro k u e he hr
      have hlen:(L' ++ [(⟨-1,m⟩:PState)]).length=L'.length + 1:=by simp
      rw [hlen] at he
      have hl1:=f1.1
      obtain ⟨k',t,rfl,ht',hr'⟩:=run_free_inv hs hr (by omega)
      obtain ⟨k1,u1,u2,hk1,hu,hA,hr1⟩:=i2 t ht' k' u e (by omega) hr'
      exact ⟨k1,u1,u2,by omega,hu,hA,hr1⟩
  | altNil =>
    intro _ _ _
    refine ⟨[],by simp,fun u hu=>absurd hu (by simp [Lang.alt,Lang.none]),fun t ht=>by simp at ht⟩
  | @altCons p ps acc to L t1 L1 r L2 hm1 hm2 ih1 ih2 =>
    intro hf ht hS
    have f1:=hm1.fine hT (hf.1 p (by simp)) ht
    have hfit:(MT.alt ps (acc ++ [t1])).Fit T L1.length:=⟨fun q hq=>hf.1 q (by simp [hq]),fun a ha=>by
      rcases List.mem_append.1 ha with ha | ha
      · have:=hf.2 a ha;have:=f1.1;omega
      · have:a=t1:=by simpa using ha
        subst this
        exact f1.2.1⟩
    have f2:=hm2.fine hT hfit (by have:=f1.1;omega)
    have i1:Con T S _ t1 to L.length L1.length:=ih1 (hf.1 p (by simp)) ht (fun i h1 h2=>by rw [hS i h1 (by have:=f2.1;omega)];exact f2.2.2.2 i h2)
    have i2:=ih2 hfit (by have:=f1.1;omega) (fun i h1 h2=>hS i (by have:=f1.1;omega) h2)
    cases r with
    | one s=>exact absurd i2 (by simp [Ok])
    | many l =>
      obtain ⟨m,rfl,j1,j2⟩:=i2
      refine ⟨t1 :: m,by simp,?_,?_⟩
      · rintro u (hu | hu)
        · obtain ⟨k,hr⟩:=i1.comp u hu
          exact ⟨t1,by simp,k,hr⟩
        · obtain ⟨t,ht',k,hr⟩:=j1 u hu
          exact ⟨t,by simp [ht'],k,hr⟩
      · intro t ht' k u e he hr
        have hl1:=f1.1
        have hl2:=f2.1
        rcases List.mem_cons.1 ht' with rfl | ht'
        · obtain ⟨k1,u1,u2,hk1,hu,hA,hr1⟩:=i1.sound k u e (by omega) hr
          exact ⟨k1,u1,u2,hk1,hu,.inl hA,hr1⟩
        · obtain ⟨k1,u1,u2,hk1,hu,hA,hr1⟩:=j2 t ht' k u e (by omega) hr
          exact ⟨k1,u1,u2,hk1,hu,.inr hA,hr1⟩
  | @opt n to L x q p L' hx hrs hrep hm ih =>
    intro hf ht hS
    have hf':n < T.length:=hf
    have hle:=G.bare_le hT n
    have hq:q < T.length:=by
      have:=(G.pl_rep hT (G.bare T n) x.kind (by omega)).2
      rw [hrep] at this
      have:q≤G.bare T n:=this
      omega
    have f1:=hm.fine hT (show q < T.length from hq) ht
    have i1:Con T S _ p to L.length L'.length:=ih hq ht (fun i h1 h2=>by rw [hS i h1 (by simp;omega),List.getElem?_append_left h2])
    have hs:=hS L'.length f1.1 (by simp)
    rw [List.getElem?_append_right (Nat.le_refl _)] at hs
    simp only [Nat.sub_self,List.getElem?_cons_zero] at hs
    obtain ⟨r,hp,hpn⟩:=G.reps_one hT hx hrs
    have hlg:=(G.lang_reps hT (G.bare T n) x.kind (G.reps_kind hrs)).1
    rw [hrep,G.lang_rep hT hx hrs hp] at hlg
    show Con T S (G.lang T n) L'.length to L.length _
    rw [← G.lang_bare hT n,G.lang_rep hT hx hrs hp]
    have hrr:Lang.rep x.kind (Lang.rep x.kind (G.lang T r))=Lang.rep x.kind (G.lang T r):=by
      rw [Lang.rep_rep (G.reps_kind hrs) (G.reps_kind hrs)]
      simp [G.mix]
    rw [hrr] at hlg
    rw [← hlg]
    exact (i1.wide (Nat.le_refl _) (by simp)).opt hs f1.1 (by simp)
  | @loop n to L x k q p L' hx hrs hrep hk63 hm ih =>
    intro hf ht hS
    have hf':n < T.length:=hf
    have hle:=G.bare_le hT n
    have hq:q < T.length:=by
      have:=(G.pl_rep hT (G.bare T n) x.kind (by omega)).2
      rw [hrep] at this
      have:q≤G.bare T n:=this
      omega
    have f1:=hm.fine hT (show q < T.length from hq) (by simp)
    have hl0:(L ++ [(⟨-1,[]⟩:PState)]).length=L.length + 1:=by simp
    rw [hl0] at f1
    have hl1:=f1.1
    have i1:Con T S (G.lang T q) p L.length (L.length + 1) L'.length:=by
      rw [← hl0]
      refine ih hq (by simp) (fun i h1 h2=>?_)
      rw [hl0] at h1
      rw [hS i (by omega) (by simpa using h2),List.getElem?_set_ne (by omega)]
    have hs:=hS L.length (Nat.le_refl _) (by simp;omega)
    rw [List.getElem?_set_self (by omega)] at hs
    obtain ⟨r,hp,hpn⟩:=G.reps_one hT hx hrs
    have hlg:=(G.lang_reps hT (G.bare T n) x.kind (G.reps_kind hrs))
    rw [hrep,G.lang_rep hT hx hrs hp] at hlg
    have hrr:Lang.rep x.kind (Lang.rep x.kind (G.lang T r))=Lang.rep x.kind (G.lang T r):=by
      rw [Lang.rep_rep (G.reps_kind hrs) (G.reps_kind hrs)]
      simp [G.mix]
    rw [hrr] at hlg
    show Con T S (G.lang T n) _ to L.length _
    rw [← G.lang_bare hT n,G.lang_rep hT hx hrs hp,← hlg.1,List.length_set]
    have hst:=i1.star hs rfl (by omega)
    by_cases h43:k=43
    · subst h43
      rw [if_pos rfl]
      exact (i1.wide (Nat.le_succ _) (Nat.le_refl _)).cat hst
    · rw [if_neg h43]
      have h42:k=42:=by
        have:k=42 ∨ k=43 ∨ k=63:=hlg.2
        omega
      subst h42
      exact hst
end Rf
end Go.Proofs.YtpgcidpghmoibaaGreatDoor
