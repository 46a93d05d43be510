/-
  THE REFERENCE's RULES AS STATES, as memory
  THE RULES AS STATES, without the program
  THE FORM OF RULES, without the program
  THE PROGRAM's READER, as memory
-/
import Derived.Test.YtpgcidpghmoibaaGreatDoorK04
import Derived.Test.YtpgcidpghmoibaaGreatDoorK03
import Derived.Test.YtpgcidpghmoibaaGreatDoorK02
namespace Go.Proofs.YtpgcidpghmoibaaGreatDoor
namespace Rf
open Go.RowKit
open G (PNode)
structure PState where
  node:Int
  next:List Nat
def scell (x:PState) (v:Value):List Value:=[.int .i64 x.node,v]
def scells (L:List PState) (W:List Value):List Value:=((L.zip W).map fun x=>scell x.1 x.2).flatten
theorem scells_snoc (L:List PState) (W:List Value) (x:PState) (v:Value) (h:W.length=L.length):scells (L ++ [x]) (W ++ [v])=scells L W ++ scell x v:=by
  unfold scells
  rw [List.zip_append h.symm]
  simp
def ImmS (vN vR:Value) (V:List (Value × Value)) (W:List Value) (k:Nat):Prop:=
  vN.ownBlock=some k ∨ vR.ownBlock=some k ∨ (∃ x ∈ V,x.1.ownBlock=some k ∨ x.2.ownBlock=some k) ∨ ∃ v ∈ W,v.ownBlock=some k
structure SaAt (w:World) (b:Nat) (T:List PNode) (Q:List Nat) (L:List PState) (B F:List Nat) (cs:Array Value) (vN vR vS vB vF:Value) (V:List (Value × Value)) (W:List Value):Prop where
  ro:RoAt w b T Q cs vN vR V
  c8:cs[8]?=some vS
  c9:cs[9]?=some vB
  c10:cs[10]?=some vF
  len:W.length=L.length
  oS:w.ownsRow 0 194 2 vS L.length (scells L W)
  oB:w.ownsRow 0 3 1 vB B.length (ints B)
  oF:w.ownsRow 0 3 1 vF F.length (ints F)
  oW:∀ (k:Nat) (x:PState) (v:Value),L[k]?=some x→W[k]?=some v→w.ownsRow 0 3 1 v x.next.length (ints x.next)
  nbS:vS.ownBlock ≠ some b
  nbB:vB.ownBlock ≠ some b
  nbF:vF.ownBlock ≠ some b
  apSB:Apart vS vB
  apSF:Apart vS vF
  apBF:Apart vB vF
  imm:∀ k,ImmS vN vR V W k→k ≠ b∧vS.ownBlock ≠ some k∧vB.ownBlock ≠ some k∧vF.ownBlock ≠ some k
def FootS (b:Nat) (vN vR vS vB vF:Value) (V:List (Value × Value)) (W:List Value) (k:Nat):Prop:=
  k=b ∨ vS.ownBlock=some k ∨ vB.ownBlock=some k ∨ vF.ownBlock=some k ∨ ImmS vN vR V W k
theorem ro_same {w w':World} {b:Nat} {T:List PNode} {Q:List Nat} {cs cs':Array Value} {vN vR:Value} {V:List (Value × Value)} (h:RoAt w b T Q cs vN vR V) (hb:w'.heap[b]?=some (.cells cs' 36 (0,0))) (h5:cs'[5]?=some vN) (h7:cs'[7]?=some vR)
    (hk:∀ k,(vN.ownBlock=some k ∨ vR.ownBlock=some k ∨ (∃ x ∈ V,x.1.ownBlock=some k ∨ x.2.ownBlock=some k))→w'.heap[k]?=w.heap[k]?):RoAt w' b T Q cs' vN vR V where
  blk:=hb
  c5:=h5
  c7:=h7
  len:=h.len
  oN:=own_same h.oN (fun k e=>hk k (.inl e))
  oR:=own_same h.oR (fun k e=>hk k (.inr (.inl e)))
  oV k x v hx hv:=⟨own_same (h.oV k x v hx hv).1 (fun j e=>hk j (.inr (.inr ⟨v,List.mem_of_getElem? hv,.inl e⟩))),own_same (h.oV k x v hx hv).2 (fun j e=>hk j (.inr (.inr ⟨v,List.mem_of_getElem? hv,.inr e⟩)))⟩
section
variable {w X w2:World} {b:Nat} {T:List PNode} {Q:List Nat} {L:List PState} {B F:List Nat} {cs:Array Value} {vN vR vS vB vF:Value} {V:List (Value × Value)} {W:List Value}
theorem SaAt.lt (h:SaAt w b T Q L B F cs vN vR vS vB vF V W):∀ k,FootS b vN vR vS vB vF V W k→k < w.heap.size:=by
  rintro k (rfl | e | e | e | e | e | ⟨x,hx,e⟩ | ⟨v,hv,e⟩)
  · exact lt_of_block h.ro.blk
  · exact (h.oS.lt k e).2
  · exact (h.oB.lt k e).2
  · exact (h.oF.lt k e).2
  · exact (h.ro.oN.lt k e).2
  · exact (h.ro.oR.lt k e).2
  · obtain ⟨j,hj⟩:=List.getElem?_of_mem hx
    have hl:j < T.length:=by
      obtain ⟨h1,_⟩:=List.getElem?_eq_some_iff.1 hj
      have h2:=h.ro.len
      omega
    obtain ⟨o1,o2⟩:=h.ro.oV j _ x (List.getElem?_eq_getElem hl) hj
    rcases e with e | e
    · exact (o1.lt k e).2
    · exact (o2.lt k e).2
  · obtain ⟨j,hj⟩:=List.getElem?_of_mem hv
    have hl:j < L.length:=by
      obtain ⟨h1,_⟩:=List.getElem?_eq_some_iff.1 hj
      have h2:=h.len
      omega
    exact ((h.oW j _ v (List.getElem?_eq_getElem hl) hj).lt k e).2
theorem SaAt.same {w':World} (h:SaAt w b T Q L B F cs vN vR vS vB vF V W) (hk:∀ k,FootS b vN vR vS vB vF V W k→w'.heap[k]?=w.heap[k]?):SaAt w' b T Q L B F cs vN vR vS vB vF V W where
  ro:=ro_same h.ro (by rw [hk b (.inl rfl)];exact h.ro.blk) h.ro.c5 h.ro.c7 (fun k e=>hk k (.inr (.inr (.inr (.inr (by
    rcases e with e | e | e
    · exact .inl e
    · exact .inr (.inl e)
    · exact .inr (.inr (.inl e))))))))
  c8:=h.c8
  c9:=h.c9
  c10:=h.c10
  len:=h.len
  oS:=own_same h.oS (fun k e=>hk k (.inr (.inl e)))
  oB:=own_same h.oB (fun k e=>hk k (.inr (.inr (.inl e))))
  oF:=own_same h.oF (fun k e=>hk k (.inr (.inr (.inr (.inl e)))))
  oW k x v hx hv:=own_same (h.oW k x v hx hv) (fun j e=>hk j (.inr (.inr (.inr (.inr (.inr (.inr (.inr ⟨v,List.mem_of_getElem? hv,e⟩))))))))
  nbS:=h.nbS
  nbB:=h.nbB
  nbF:=h.nbF
  apSB:=h.apSB
  apSF:=h.apSF
  apBF:=h.apBF
  imm:=h.imm
theorem SaAt.addS {v:Value} (h:SaAt w b T Q L B F cs vN vR vS vB vF V W) (x:PState) (nv:Value) (hX:Kept (fun _=>True) w X) (hg:X.grownBy w2 vS.ownBlock) (hown:w2.ownsRow 0 194 2 v (L.length + 1) (scells L W ++ scell x nv)) (hat:Lies w vS v)
    (hnv:w.ownsRow 0 3 1 nv x.next.length (ints x.next)) (hr:∀ k,nv.ownBlock=some k→¬ FootS b vN vR vS vB vF V W k) (hcs:cs.size=11) :
    SaAt (w2.setCell ⟨b,8,none⟩ v) b T Q (L ++ [x]) B F (cs.setIfInBounds 8 v) vN vR v vB vF V (W ++ [nv]):=by
  have hb:=lt_of_block h.ro.blk
  have h2:∀ k,k < w.heap.size→vS.ownBlock ≠ some k→w2.heap[k]?=w.heap[k]?:=fun k hk hn=>(hg.block k (Nat.lt_of_lt_of_le hk hX.size) (fun e=>hn e.symm)).trans (hX.block k hk trivial)
  have h3:∀ k,k < w.heap.size→vS.ownBlock ≠ some k→k ≠ b→(w2.setCell ⟨b,8,none⟩ v).heap[k]?=w.heap[k]?:=fun k hk hn hne=>(blk_ne v hne).trans (h2 k hk hn)
  have new:∀ k,k < w.heap.size→vS.ownBlock ≠ some k→v.ownBlock ≠ some k:=by
    intro k hk hn e
    rcases hat k e with e2 | e2
    · exact hn e2
    · omega
  have hvb:=new b hb h.nbS
  have himm:∀ k,ImmS vN vR V W k→(w2.setCell ⟨b,8,none⟩ v).heap[k]?=w.heap[k]?:=fun k hk=>h3 k (h.lt k (.inr (.inr (.inr (.inr hk))))) (h.imm k hk).2.1 (h.imm k hk).1
  refine ⟨?_,by simp [hcs],by simpa using h.c9,by simpa using h.c10,by simp [h.len],?_,?_,?_,?_,hvb,h.nbB,h.nbF,?_,?_,h.apBF,?_⟩
  · have e:w2.heap[b]?=_:=(h2 b hb h.nbS).trans h.ro.blk
    exact ro_same h.ro (blk_set e 8 v) (by simpa using h.ro.c5) (by simpa using h.ro.c7) (fun k e=>himm k (by
      rcases e with e | e | e
      · exact .inl e
      · exact .inr (.inl e)
      · exact .inr (.inr (.inl e))))
  · rw [scells_snoc L W x nv h.len,List.length_append]
    exact own_same hown (fun k e=>blk_ne v (fun e2=>hvb (e2 ▸ e)))
  · exact own_same h.oB (fun k e=>h3 k (h.oB.lt k e).2 (fun e2=>h.apSB k e2 e) (fun e2=>h.nbB (e2 ▸ e)))
  · exact own_same h.oF (fun k e=>h3 k (h.oF.lt k e).2 (fun e2=>h.apSF k e2 e) (fun e2=>h.nbF (e2 ▸ e)))
  · intro k y u hy hu
    rcases Nat.lt_or_ge k L.length with hk | hk
    · rw [List.getElem?_append_left hk] at hy
      rw [List.getElem?_append_left (by rw [h.len];exact hk)] at hu
      exact own_same (h.oW k y u hy hu) (fun j e=>himm j (.inr (.inr (.inr ⟨u,List.mem_of_getElem? hu,e⟩))))
    · rw [List.getElem?_append_right hk] at hy
      rw [List.getElem?_append_right (by rw [h.len];exact hk),h.len] at hu
      have hk0:k - L.length=0:=by
        obtain ⟨h1,_⟩:=List.getElem?_eq_some_iff.1 hy
        simp at h1
        omega
      rw [hk0] at hy hu
      simp only [List.getElem?_cons_zero,Option.some.injEq] at hy hu
      subst hy hu
      exact own_same hnv (fun j e=>h3 j (hnv.lt j e).2 (fun e2=>hr j e (.inr (.inl e2))) (fun e2=>hr j e (.inl e2)))
  · intro k e1 e2
    exact new k (h.oB.lt k e2).2 (fun e3=>h.apSB k e3 e2) e1
  · intro k e1 e2
    exact new k (h.oF.lt k e2).2 (fun e3=>h.apSF k e3 e2) e1
  · intro k e
    have:ImmS vN vR V W k ∨ nv.ownBlock=some k:=by
      rcases e with e | e | e | ⟨u,hu,e⟩
      · exact .inl (.inl e)
      · exact .inl (.inr (.inl e))
      · exact .inl (.inr (.inr (.inl e)))
      · rcases List.mem_append.1 hu with hu | hu
        · exact .inl (.inr (.inr (.inr ⟨u,hu,e⟩)))
        · simp only [List.mem_singleton] at hu
          subst hu
          exact .inr e
    rcases this with e | e
    · obtain ⟨i1,i2,i3,i4⟩:=h.imm k e
      exact ⟨i1,new k (h.lt k (.inr (.inr (.inr (.inr e))))) i2,i3,i4⟩
    · have hn:=hr k e
      exact ⟨fun e2=>hn (.inl e2),new k (hnv.lt k e).2 (fun e2=>hn (.inr (.inl e2))),fun e2=>hn (.inr (.inr (.inl e2))),fun e2=>hn (.inr (.inr (.inr (.inl e2))))⟩
end
end Rf
end Go.Proofs.YtpgcidpghmoibaaGreatDoor

namespace Go.Proofs.YtpgcidpghmoibaaGreatDoor
namespace G
def pl (T:List PNode) (n:Nat):Nat:=(lv T n).length
def pls (T:List PNode) (ps:List Nat):Nat:=(ps.map (pl T)).sum
theorem len_flatMap (T:List PNode):∀ ps:List Nat,(ps.flatMap (lv T)).length=pls T ps
  | []=>rfl
  | p :: ps=>by simp only [List.flatMap_cons,List.length_append,len_flatMap T ps,pls,List.map_cons,List.sum_cons,pl]
theorem pl_step {T:List PNode} (hT:WF T) {n:Nat} {x:PNode} (h:T[n]?=some x):pl T n=if x.kind=115 then 1 else pls T x.parts:=by
  unfold pl
  rw [lv_step hT h]
  split
  · rfl
  · exact len_flatMap T _
theorem pl_bare {T:List PNode} (hT:WF T):∀ (n:Nat),n < T.length→pl T (bare T n)=pl T n:=by
  intro n
  induction n using Nat.strongRecOn with
  | ind n ih =>
    intro hn
    have hx:T[n]?=some (T[n]'hn):=List.getElem?_eq_getElem hn
    generalize T[n]'hn=x at hx
    cases hl:lone x with
    | false=>rw [bare_end hx hl]
    | true =>
      obtain ⟨p,hp⟩:=lone_head hl
      have hpn:=(hT n x hx).parts p (by rw [hp];simp)
      rw [bare_step hT hx hl hp,ih p hpn (by omega),pl_step hT hx]
      have hk:x.kind ≠ 115:=by
        simp only [lone,Bool.and_eq_true,Bool.or_eq_true,decide_eq_true_eq] at hl
        omega
      rw [if_neg hk,hp]
      simp [pls]
theorem pl_rep {T:List PNode} (hT:WF T):∀ (n k:Nat),n < T.length→pl T (rep T k n).2=pl T n∧(rep T k n).2≤n:=by
  intro n
  induction n using Nat.strongRecOn with
  | ind n ih =>
    intro k hn
    have hx:T[n]?=some (T[n]'hn):=List.getElem?_eq_getElem hn
    generalize T[n]'hn=x at hx
    cases hl:reps x with
    | false=>rw [rep_end hx hl];exact ⟨rfl,Nat.le_refl _⟩
    | true =>
      obtain ⟨p,hp,hpn⟩:=reps_one hT hx hl
      have hb:=bare_le hT p
      obtain ⟨i1,i2⟩:=ih (bare T p) (by omega) (mix k x.kind) (by omega)
      rw [rep_step hT hx hl hp]
      refine ⟨?_,by omega⟩
      rw [i1,pl_bare hT p (by omega),pl_step hT hx]
      have hk:x.kind ≠ 115:=by
        simp only [reps,Bool.or_eq_true,decide_eq_true_eq] at hl
        omega
      rw [if_neg hk,hp]
      simp [pls]
theorem pl_pos {T:List PNode} (hT:WF T):∀ (n:Nat),n < T.length→1≤pl T n:=by
  intro n
  induction n using Nat.strongRecOn with
  | ind n ih =>
    intro hn
    have hx:T[n]?=some (T[n]'hn):=List.getElem?_eq_getElem hn
    generalize T[n]'hn=x at hx
    rw [pl_step hT hx]
    split
    · exact Nat.le_refl _
    · rename_i hk
      have g:=hT n x hx
      have hne:x.parts ≠ []:=by
        rcases g.kind with ⟨k,_⟩ | ⟨_,k⟩ | ⟨_,k⟩
        · exact absurd k hk
        · exact k
        · intro e;rw [e] at k;simp at k
      match hp:x.parts,hne with
      | p :: ps,_ =>
        have hpn:=g.parts p (by rw [hp];simp)
        have:=ih p hpn (by omega)
        simp only [pls,List.map_cons,List.sum_cons]
        omega
theorem size_pl {T:List PNode} (hT:WF T):∀ (n:Nat) (x:PNode),T[n]?=some x→x.size=min (pl T n) 101:=by
  intro n
  induction n using Nat.strongRecOn with
  | ind n ih =>
    intro x hx
    have g:=hT n x hx
    have hsum:∀ ps:List Nat,(∀ p ∈ ps,p < n)→min (sizeOf T ps) 101=min (pls T ps) 101:=by
      intro ps
      induction ps with
      | nil=>intro _;rfl
      | cons p ps ihp =>
        intro hps
        have h1:=ihp (fun q hq=>hps q (by simp [hq]))
        have hpn:=hps p (by simp)
        have hn:n < T.length:=(List.getElem?_eq_some_iff.1 hx).1
        have hy:T[p]?=some (T[p]'(by omega)):=List.getElem?_eq_getElem _
        have h2:=ih p hpn _ hy
        rw [← sz_eq hy] at h2
        simp only [sizeOf,pls,List.map_cons,List.sum_cons] at *
        omega
    rw [g.size,pl_step hT hx]
    by_cases hk:x.kind=115
    · rw [if_pos hk,if_pos hk]
      rcases g.kind with ⟨_,k⟩ | ⟨k,_⟩ | ⟨k,_⟩
      · rw [k];rfl
      · omega
      · omega
    · rw [if_neg hk,if_neg hk,Nat.zero_add]
      exact hsum x.parts g.parts
theorem sizeOf_pls {T:List PNode} (hT:WF T):∀ ps:List Nat,(∀ p ∈ ps,p < T.length)→sizeOf T ps≤100→pls T ps=sizeOf T ps
  | [],_,_=>rfl
  | p :: ps,hps,h=>by
    have hp:=hps p (by simp)
    have hy:T[p]?=some (T[p]'hp):=List.getElem?_eq_getElem _
    have h2:=size_pl hT p _ hy
    rw [← sz_eq hy] at h2
    have ih:=sizeOf_pls hT ps (fun q hq=>hps q (by simp [hq])) (by simp only [sizeOf,List.map_cons,List.sum_cons] at *;omega)
    simp only [sizeOf,pls,List.map_cons,List.sum_cons] at *
    omega
end G
namespace Rf
open G (PNode)
inductive MT where
  | node (n:Nat)
  | seq (ps:List Nat)
  | alt (ps acc:List Nat)
inductive MR where
  | one (r:Nat)
  | many (l:List Nat)
inductive Md (T:List PNode):MT→Nat→List PState→MR→List PState→Prop
  | set {n to L x}:T[G.bare T n]?=some x→x.kind=115→Md T (.node n) to L (.one L.length) (L ++ [⟨(G.bare T n:Int),[to]⟩])
  | seq {n to L x r L'}:T[G.bare T n]?=some x→x.kind=113→Md T (.seq x.parts.reverse) to L r L'→Md T (.node n) to L r L'
  | seqNil {to L}:Md T (.seq []) to L (.one to) L
  | seqCons {p ps to L t1 L1 r L2}:Md T (.node p) to L (.one t1) L1→Md T (.seq ps) t1 L1 r L2→Md T (.seq (p :: ps)) to L r L2
  | alt {n to L x l L'}:T[G.bare T n]?=some x→x.kind=99→Md T (.alt x.parts []) to L (.many l) L'→Md T (.node n) to L (.one L'.length) (L' ++ [⟨-1,l⟩])
  | altNil {acc to L}:Md T (.alt [] acc) to L (.many acc) L
  | altCons {p ps acc to L t1 L1 r L2}:Md T (.node p) to L (.one t1) L1→Md T (.alt ps (acc ++ [t1])) to L1 r L2→Md T (.alt (p :: ps) acc) to L r L2
  | opt {n to L x q p L'}:T[G.bare T n]?=some x→G.reps x=true→G.rep T x.kind (G.bare T n)=(63,q)→Md T (.node q) to L (.one p) L'→Md T (.node n) to L (.one L'.length) (L' ++ [⟨-1,[p,to]⟩])
  | loop {n to L x k q p L'}:T[G.bare T n]?=some x→G.reps x=true→G.rep T x.kind (G.bare T n)=(k,q)→k ≠ 63→Md T (.node q) L.length (L ++ [⟨-1,[]⟩]) (.one p) L' →
      Md T (.node n) to L (.one (if k=43 then p else L.length)) (L'.set L.length ⟨-1,[p,to]⟩)
end Rf
end Go.Proofs.YtpgcidpghmoibaaGreatDoor

namespace Go.Proofs.YtpgcidpghmoibaaGreatDoor
namespace G
def Head (s:ByteArray) (k:Nat):Prop:=pk s k=36∧wend s (k + 1) ≠ k + 1∧pk s (skip s (wend s (k + 1)))=61
inductive SRes where
  | rule (n j:Nat) (T:List PNode)
  | defn (nm:ByteArray) (n j:Nat) (T:List PNode)
  | err (e p:Nat)
inductive Stm (s:ByteArray) (E:List (ByteArray × Nat)):Nat→List PNode→SRes→Prop
  | ruleErr {k T e p}:¬ Head s k→R s E (.expr []) 0 k T (.err e p)→Stm s E k T (.err e p)
  | ruleForm {k T n j T'}:¬ Head s k→R s E (.expr []) 0 k T (.ok n j T')→pk s (skip s j) ≠ 59→Stm s E k T (.err 2 (skip s j))
  | rule {k T n j T'}:¬ Head s k→R s E (.expr []) 0 k T (.ok n j T')→pk s (skip s j)=59→Stm s E k T (.rule n (skip s j + 1) T')
  | dup {k T m}:Head s k→lookup E (name s k)=some m→Stm s E k T (.err 3 k)
  | defErr {k T e p}:Head s k→lookup E (name s k)=none→R s E (.expr []) 0 (skip s (wend s (k + 1)) + 1) T (.err e p)→Stm s E k T (.err e p)
  | defForm {k T n j T'}:Head s k→lookup E (name s k)=none→R s E (.expr []) 0 (skip s (wend s (k + 1)) + 1) T (.ok n j T')→pk s (skip s j) ≠ 59→Stm s E k T (.err 2 (skip s j))
  | defn {k T n j T'}:Head s k→lookup E (name s k)=none→R s E (.expr []) 0 (skip s (wend s (k + 1)) + 1) T (.ok n j T')→pk s (skip s j)=59→Stm s E k T (.defn (name s k) n (skip s j + 1) T')
def SRes.Fine (s:ByteArray) (k:Nat) (T:List PNode):SRes→Prop
  | .rule n j T'=>k < j∧j≤s.size∧n < T'.length∧WF T'∧T.length≤T'.length∧T'.length≤4 * j
  | .defn _ n j T'=>k < j∧j≤s.size∧n < T'.length∧WF T'∧T.length≤T'.length∧T'.length≤4 * j
  | .err e p=>1≤e∧e≤6∧p≤s.size
theorem fine_at {s:ByteArray} {E:List (ByteArray × Nat)} {k i n j:Nat} {T T':List PNode} (hr:R s E (.expr []) 0 i T (.ok n j T')) (hki:k≤i) (hi:i≤s.size) (hT:WF T) (hE:∀ x ∈ E,x.2 < T.length) (hl:T.length≤4 * k) (h59:pk s (skip s j)=59) :
    k < skip s j + 1∧skip s j + 1≤s.size∧n < T'.length∧WF T'∧T.length≤T'.length∧T'.length≤4 * (skip s j + 1):=by
  obtain ⟨a1,a2,a3,a4,⟨X,hX⟩,a6⟩:=hr.fine hi hT (by simp [NT.parts]) (by simp [NT.ranges]) hE
  have hlt:=lt_of_pk (s:=s) (i:=skip s j) (by omega)
  have hg:=skip_ge s j
  simp only [NT.sl,NT.sr] at a6
  exact ⟨by omega,by omega,a3,a4,by rw [hX];simp,by omega⟩
theorem Stm.fine {s:ByteArray} {E:List (ByteArray × Nat)} {k:Nat} {T:List PNode} {r:SRes} (h:Stm s E k T r) (hk:k≤s.size) (hT:WF T) (hE:∀ x ∈ E,x.2 < T.length) (hl:T.length≤4 * k):r.Fine s k T:=by
  have hd:Head s k→skip s (wend s (k + 1)) + 1≤s.size∧k≤skip s (wend s (k + 1)) + 1:=by
    intro hh
    have h1:=lt_of_pk (s:=s) (i:=skip s (wend s (k + 1))) (by have:=hh.2.2;omega)
    have h2:=skip_ge s (wend s (k + 1))
    have h3:=wend_ge s (k + 1)
    omega
  cases h with
  | ruleErr h1 hr=>exact hr.fine hk hT (by simp [NT.parts]) (by simp [NT.ranges]) hE
  | ruleForm h1 hr h3 =>
    have:=hr.fine hk hT (by simp [NT.parts]) (by simp [NT.ranges]) hE
    exact ⟨by omega,by omega,skip_le s _ this.2.1⟩
  | rule h1 hr h3=>exact fine_at hr (Nat.le_refl _) hk hT hE hl h3
  | dup h1 h2=>exact ⟨by omega,by omega,hk⟩
  | defErr h1 h2 hr=>exact hr.fine (hd h1).1 hT (by simp [NT.parts]) (by simp [NT.ranges]) hE
  | defForm h1 h2 hr h3 =>
    have:=hr.fine (hd h1).1 hT (by simp [NT.parts]) (by simp [NT.ranges]) hE
    exact ⟨by omega,by omega,skip_le s _ this.2.1⟩
  | defn h1 h2 hr h3=>exact fine_at hr (hd h1).2 (hd h1).1 hT hE hl h3
inductive Fin' where
  | ok (Q:List Nat) (T:List PNode)
  | err (e p:Nat)
inductive Src (s:ByteArray):Nat→List (ByteArray × Nat)→List Nat→List PNode→Fin'→Prop
  | done {i E Q T}:¬ skip s i < s.size→Src s i E Q T (.ok Q T)
  | err {i E Q T e p}:skip s i < s.size→Stm s E (skip s i) T (.err e p)→Src s i E Q T (.err e p)
  | rule {i E Q T n j T' r}:skip s i < s.size→Stm s E (skip s i) T (.rule n j T')→Src s j E (Q ++ [n]) T' r→Src s i E Q T r
  | defn {i E Q T nm n j T' r}:skip s i < s.size→Stm s E (skip s i) T (.defn nm n j T')→Src s j (E ++ [(nm,n)]) Q T' r→Src s i E Q T r
theorem bare_dollar {s:ByteArray} {E:List (ByteArray × Nat)} {k:Nat} {T:List PNode} (hk:skip s k=k) (h:pk s k=36) (h1:wend s (k + 1)=k + 1):R s E (.expr []) 0 k T (.err 2 k):=by
  refine .exprErr (.seqErr (by rw [hk,h];rfl) ?_)
  rw [hk]
  exact .nameForm h h1
end G
end Go.Proofs.YtpgcidpghmoibaaGreatDoor

namespace Go.Proofs.YtpgcidpghmoibaaGreatDoor
namespace Pr
open Go.RowKit
open Rf (Kept)
structure C where
  i:Nat
  d:Nat
  p:Nat
  e:Nat
def rcs (s:ByteArray) (c:C) (m vR:Value):Array Value:=#[.string s,.int .i64 (c.i:Int),.int .i64 (c.d:Int),m,vR,.int .i64 (c.p:Int),.int .i64 (c.e:Int)]
def RB (w:World) (b:Nat) (s:ByteArray) (c:C) (m vR:Value):Prop:=w.heap[b]?=some (.cells (rcs s c m vR) 142 (0,0))
structure On (b:Nat) (w w':World):Prop where
  kept:Kept (fun k=>k ≠ b) w w'
  size:w'.heap.size=w.heap.size
theorem On.refl (b:Nat) (w:World):On b w w:=⟨Kept.refl _ _,rfl⟩
theorem On.trans {b:Nat} {w w1 w2:World} (h:On b w w1) (g:On b w1 w2):On b w w2:=⟨h.kept.trans g.kept,g.size.trans h.size⟩
theorem On.drewN {b:Nat} {w w1:World} (h:On b w w1) (n:Nat):On b w (w1.drewN n):=⟨h.kept.drewN n,h.size⟩
theorem On.set {b:Nat} {w w1:World} (h:On b w w1) (o:Nat) (v:Value):On b w (w1.setCell ⟨b,o,none⟩ v):=
  ⟨h.kept.setCell (fun hn=>hn rfl) v,by simp [World.setCell,h.size]⟩
theorem RB.drewN {w:World} {b:Nat} {s:ByteArray} {c:C} {m vR:Value} (h:RB w b s c m vR) (n:Nat):RB (w.drewN n) b s c m vR:=h
theorem RB.lt {w:World} {b:Nat} {s:ByteArray} {c:C} {m vR:Value} (h:RB w b s c m vR):b < w.heap.size:=lt_of_block h
theorem RB.num {w:World} {b:Nat} {s:ByteArray} {c c':C} {m m' vR vR':Value} (h:RB w b s c m vR) (o:Nat) (v:Value) (hc:(rcs s c m vR).setIfInBounds o v=rcs s c' m' vR'):RB (w.setCell ⟨b,o,none⟩ v) b s c' m' vR':=by
  unfold RB
  rw [Rf.blk_set h,hc]
theorem RB.setI {w:World} {b:Nat} {s:ByteArray} {c:C} {m vR:Value} (h:RB w b s c m vR) (j:Nat):RB (w.setCell ⟨b,1,none⟩ (.int .i64 (j:Int))) b s { c with i:=j } m vR:=h.num 1 _ rfl
theorem RB.inc {w:World} {b:Nat} {s:ByteArray} {c:C} {m vR:Value} (h:RB w b s c m vR):RB (w.setCell ⟨b,1,none⟩ (.int .i64 ((c.i:Int) + 1))) b s { c with i:=c.i + 1 } m vR:=h.setI (c.i + 1)
theorem RB.add {w:World} {b:Nat} {s:ByteArray} {c:C} {m vR:Value} (h:RB w b s c m vR) (n:Nat):RB (w.setCell ⟨b,1,none⟩ (.int .i64 ((c.i:Int) + (n:Int)))) b s { c with i:=c.i + n } m vR:=h.setI (c.i + n)
theorem RB.setD {w:World} {b:Nat} {s:ByteArray} {c:C} {m vR:Value} (h:RB w b s c m vR) (j:Nat):RB (w.setCell ⟨b,2,none⟩ (.int .i64 (j:Int))) b s { c with d:=j } m vR:=h.num 2 _ rfl
theorem RB.setP {w:World} {b:Nat} {s:ByteArray} {c:C} {m vR:Value} (h:RB w b s c m vR) (j:Nat):RB (w.setCell ⟨b,5,none⟩ (.int .i64 (j:Int))) b s { c with p:=j } m vR:=h.num 5 _ rfl
theorem RB.setE {w:World} {b:Nat} {s:ByteArray} {c:C} {m vR:Value} (h:RB w b s c m vR) (j:Nat):RB (w.setCell ⟨b,6,none⟩ (.int .i64 (j:Int))) b s { c with e:=j } m vR:=h.num 6 _ rfl
theorem RB.kept {w w':World} {b:Nat} {s:ByteArray} {c:C} {m vR:Value} {p:Nat→Prop} (h:RB w b s c m vR) (hk:Kept p w w') (hp:p b):RB w' b s c m vR:=(hk.block b h.lt hp).trans h
structure Reads (w:World) (b:Nat) (s:ByteArray) (c:C) (m vR:Value):Prop where
  c0:w.cell? ⟨b,0,none⟩=some (.string s)
  c1:w.cell? ⟨b,1,none⟩=some (.int .i64 (c.i:Int))
  c2:w.cell? ⟨b,2,none⟩=some (.int .i64 (c.d:Int))
  c3:w.cell? ⟨b,3,none⟩=some m
  c4:w.cell? ⟨b,4,none⟩=some vR
  c5:w.cell? ⟨b,5,none⟩=some (.int .i64 (c.p:Int))
  c6:w.cell? ⟨b,6,none⟩=some (.int .i64 (c.e:Int))
  fr:∀ o,w.frozen? ⟨b,o,none⟩=false
theorem RB.reads {w:World} {b:Nat} {s:ByteArray} {c:C} {m vR:Value} (h:RB w b s c m vR):Reads w b s c m vR:=
  ⟨Rf.cell_blk h 0 _ rfl,Rf.cell_blk h 1 _ rfl,Rf.cell_blk h 2 _ rfl,Rf.cell_blk h 3 _ rfl,Rf.cell_blk h 4 _ rfl,Rf.cell_blk h 5 _ rfl,Rf.cell_blk h 6 _ rfl,fun o=>Rf.free_blk h o⟩
def posOf (b:Nat) (w:World):Nat:=match w.cell? ⟨b,1,none⟩ with | some (.int _ x)=>x.toNat | _=>0
theorem RB.pos {w:World} {b:Nat} {s:ByteArray} {c:C} {m vR:Value} (h:RB w b s c m vR):posOf b w=c.i:=by
  unfold posOf
  rw [h.reads.c1]
  simp
def pkV (s:ByteArray) (i:Nat):Int:=if i < s.size then (U.at' s i:Int) else 0
theorem pkV_eq {s:ByteArray} {i:Nat} {c:Int} (hc:0 < c):pkV s i=c ↔ G.pk s i=c:=by
  unfold pkV G.pk
  split
  · exact Iff.rfl
  · omega
end Pr
end Go.Proofs.YtpgcidpghmoibaaGreatDoor
