/-
  THE PROGRAM's MACHINE, as memory
  THE PROGRAM's MACHINE
  THE PROGRAM's MACHINE
  THE PROGRAM's MACHINE as plain functions
-/
import Derived.Test.YtpgcidpghmoibaaGreatDoorK31
namespace Go.Proofs.YtpgcidpghmoibaaGreatDoor
namespace Pr
open Go.RowKit
open Rf (Kept Lies)
open G (PNode)
structure Pl where
  x:PNode
  rule:Nat
  last:Bool
  be:PB
structure En where
  f:PB
  l:PB
  e:Bool
abbrev En.val (x:En):Value:=.agg #[.int .u64 x.f.a,.int .u64 x.f.c,.int .u64 x.l.a,.int .u64 x.l.c,.bool x.e]
def pcell (p:Pl) (v:Value):List Value:=[v,.bool p.x.other,.int .i64 (p.rule:Int),.bool p.last,.int .u64 p.be.a,.int .u64 p.be.c]
def pcells (P:List Pl) (V:List Value):List Value:=((P.zip V).map fun x=>pcell x.1 x.2).flatten
theorem pcells_snoc (P:List Pl) (V:List Value) (p:Pl) (v:Value) (h:V.length=P.length):pcells (P ++ [p]) (V ++ [v])=pcells P V ++ pcell p v:=by
  unfold pcells
  rw [List.zip_append h.symm]
  simp
theorem pflat_get {α:Type} (f:α→List Value) (c:Nat) (hc:∀ x,(f x).length=c):∀ (l:List α) (k o:Nat) (x:α),l[k]?=some x→o < c→((l.map f).flatten)[k * c + o]?=(f x)[o]?
  | [],k,o,x,h,ho=>by simp at h
  | y :: l,0,o,x,h,ho=>by
    simp only [List.getElem?_cons_zero,Option.some.injEq] at h
    subst h
    simp only [List.map_cons,List.flatten_cons,Nat.zero_mul,Nat.zero_add]
    rw [List.getElem?_append_left (by rw [hc];exact ho)]
  | y :: l,k + 1,o,x,h,ho=>by
    simp only [List.getElem?_cons_succ] at h
    simp only [List.map_cons,List.flatten_cons]
    rw [List.getElem?_append_right (by rw [hc];rw [Nat.succ_mul];omega),hc]
    have e:(k + 1) * c + o - c=k * c + o:=by rw [Nat.succ_mul];omega
    rw [e]
    exact pflat_get f c hc l k o x h ho
theorem pcells_get {P:List Pl} {V:List Value} {k:Nat} {p:Pl} {v:Value} (hx:P[k]?=some p) (hv:V[k]?=some v) (o:Nat) (ho:o < 6):(pcells P V)[k * 6 + o]?=(pcell p v)[o]?:=
  pflat_get (fun x:Pl × Value=>pcell x.1 x.2) 6 (fun _=>rfl) (P.zip V) k o (p,v) (List.getElem?_zip_eq_some.2 ⟨hx,hv⟩) ho
theorem pcells_set (p':Pl) (u:Value) (o:Nat) (ho:o < 6):∀ (P:List Pl) (V:List Value) (k:Nat) (v:Value) (p:Pl),V.length=P.length→P[k]?=some p→V[k]?=some v→pcell p' v=(pcell p v).set o u→pcells (P.set k p') V=(pcells P V).set (k * 6 + o) u
  | [],_,k,v,p,_,h,_,_=>by simp at h
  | y :: P,[],k,v,p,hl,_,_,_=>by simp at hl
  | y :: P,z :: V,0,v,p,hl,h,hv,he=>by
    simp only [List.getElem?_cons_zero,Option.some.injEq] at h hv
    subst h hv
    simp only [List.set_cons_zero,pcells,List.zip_cons_cons,List.map_cons,List.flatten_cons,he,Nat.zero_mul,Nat.zero_add]
    rw [List.set_append_left _ _ (by simp [pcell];omega)]
  | y :: P,z :: V,k + 1,v,p,hl,h,hv,he=>by
    simp only [List.getElem?_cons_succ] at h hv
    have ih:=pcells_set p' u o ho P V k v p (by simpa using hl) h hv he
    simp only [List.set_cons_succ,pcells,List.zip_cons_cons,List.map_cons,List.flatten_cons] at ih ⊢
    rw [ih,List.set_append_right _ _ (by simp [pcell];omega)]
    congr 2
    simp [pcell]
    omega
structure MaAt (w:World) (I:Nat→Prop) (b:Nat) (v:Value) (P:List Pl) (V:List Value) (f:PB):Prop where
  blk:w.heap[b]?=some (.cells #[v,.int .u64 f.a,.int .u64 f.c] 155 (0,0))
  len:V.length=P.length
  row:w.ownsRow 0 158 6 v P.length (pcells P V)
  sets:∀ (k:Nat) (p:Pl) (u:Value),P[k]?=some p→V[k]?=some u→∃ rs,w.ownsRow 0 197 2 u rs.length (rc rs)∧SetOk rs p.x.ranges∧∀ j,u.ownBlock=some j→I j
  nb:v.ownBlock ≠ some b
  ib:¬ I b
  iv:∀ k,v.ownBlock=some k→¬ I k
theorem MaAt.same {w w':World} {I:Nat→Prop} {b:Nat} {v:Value} {P:List Pl} {V:List Value} {f:PB} (h:MaAt w I b v P V f) (hk:∀ k,k=b ∨ v.ownBlock=some k ∨ I k→w'.heap[k]?=w.heap[k]?):MaAt w' I b v P V f where
  blk:=(hk b (.inl rfl)).trans h.blk
  len:=h.len
  row:=Rf.own_same h.row (fun k e=>hk k (.inr (.inl e)))
  sets k p u hp hu:=by
    obtain ⟨rs,h1,h2,h3⟩:=h.sets k p u hp hu
    exact ⟨rs,Rf.own_same h1 (fun j e=>hk j (.inr (.inr (h3 j e)))),h2,h3⟩
  nb:=h.nb
  ib:=h.ib
  iv:=h.iv
theorem MaAt.below {w w':World} {I:Nat→Prop} {b:Nat} {v:Value} {P:List Pl} {V:List Value} {f:PB} (h:MaAt w I b v P V f) (hI:∀ k,I k→k < w.heap.size) (hb:Below w.heap.size w w'):MaAt w' I b v P V f:=
  h.same (fun k e=>hb.block k (by
    rcases e with rfl | e | e
    · exact lt_of_block h.blk
    · exact (h.row.lt k e).2
    · exact hI k e))
theorem MaAt.put {w:World} {I:Nat→Prop} {b g cap:Nat} {P:List Pl} {V:List Value} {f:PB} (h:MaAt w I b (.slice (some ⟨g,0,none⟩) P.length cap) P V f) (k:Nat) (p p':Pl) (hp:P[k]?=some p) (o:Nat) (ho:o < 6) (u:Value) (hx:p'.x=p.x) (hc:∀ v,pcell p' v=(pcell p v).set o u) :
    MaAt (w.setCell ⟨g,k * 6 + o,none⟩ u) I b (.slice (some ⟨g,0,none⟩) (P.set k p').length cap) (P.set k p') V f:=by
  have hkl:k < P.length:=(List.getElem?_eq_some_iff.1 hp).1
  have hv:V[k]?=some (V[k]'(by rw [h.len];exact hkl)):=List.getElem?_eq_getElem _
  have hne:∀ j,j ≠ g→(w.setCell ⟨g,k * 6 + o,none⟩ u).heap[j]?=w.heap[j]?:=fun j hj=>Rf.blk_ne u hj
  have hst:=(h.row.stored (k * 6 + o) u).1
  rw [← pcells_set p' u o ho P V k _ p h.len hp hv (hc _)] at hst
  refine { blk:=?_,len:=by simpa using h.len,row:=?_,sets:=?_,nb:=h.nb,ib:=h.ib,iv:=h.iv }
  · rw [hne b (fun e=>h.nb (by rw [e];rfl)),List.length_set]
    exact h.blk
  · rw [List.length_set]
    exact hst
  · intro j q z hq hz
    have hI:∀ i,I i→i ≠ g:=fun i hi e=>h.iv g rfl (e ▸ hi)
    by_cases e:k=j
    · subst e
      rw [List.getElem?_set_self hkl] at hq
      simp only [Option.some.injEq] at hq
      subst hq
      obtain ⟨rs,h1,h2,h3⟩:=h.sets k p z hp hz
      exact ⟨rs,Rf.own_same h1 (fun i e=>hne i (hI i (h3 i e))),by rw [hx];exact h2,h3⟩
    · rw [List.getElem?_set_ne e] at hq
      obtain ⟨rs,h1,h2,h3⟩:=h.sets j q z hq hz
      exact ⟨rs,Rf.own_same h1 (fun i e=>hne i (hI i (h3 i e))),h2,h3⟩
theorem MaAt.first {w:World} {I:Nat→Prop} {b:Nat} {v:Value} {P:List Pl} {V:List Value} {f:PB} (h:MaAt w I b v P V f) (f':PB):MaAt ((w.setCell ⟨b,1,none⟩ (.int .u64 f'.a)).setCell ⟨b,2,none⟩ (.int .u64 f'.c)) I b v P V f':=by
  have hne:∀ j,j ≠ b→((w.setCell ⟨b,1,none⟩ (.int .u64 f'.a)).setCell ⟨b,2,none⟩ (.int .u64 f'.c)).heap[j]?=w.heap[j]?:=fun j hj=>(Rf.blk_ne _ hj).trans (Rf.blk_ne _ hj)
  refine { blk:=Rf.blk_set (Rf.blk_set h.blk _ _) _ _,len:=h.len,row:=Rf.own_same h.row (fun k e=>hne k (fun e2=>h.nb (e2 ▸ e))),sets:=?_,nb:=h.nb,ib:=h.ib,iv:=h.iv }
  intro k p u hp hu
  obtain ⟨rs,h1,h2,h3⟩:=h.sets k p u hp hu
  exact ⟨rs,Rf.own_same h1 (fun j e=>hne j (fun e2=>h.ib (e2 ▸ h3 j e))),h2,h3⟩
theorem MaAt.snoc {w X w4:World} {I:Nat→Prop} {b:Nat} {v:Value} {P:List Pl} {V:List Value} {f:PB} (h:MaAt w I b v P V f) (hI:∀ k,I k→k < w.heap.size) (x:PNode) (u:Value) (rs:List (Nat × Nat)) (hu:w.ownsRow 0 197 2 u rs.length (rc rs)) (hok:SetOk rs x.ranges) (hui:∀ j,u.ownBlock=some j→I j)
    (hX:Kept (fun _=>True) w X) (hg:X.grownBy w4 v.ownBlock) {v':Value} (hl:Lies w v v') (hown:w4.ownsRow 0 158 6 v' (P.length + 1) (pcells P V ++ pcell ⟨x,0,false,⟨0,0⟩⟩ u)) :
    MaAt (w4.setCell ⟨b,0,none⟩ v') I b v' (P ++ [⟨x,0,false,⟨0,0⟩⟩]) (V ++ [u]) f:=by
  have hbl:=lt_of_block h.blk
  have hxs:=hX.size
  have hk:∀ k,k < w.heap.size→v.ownBlock ≠ some k→w4.heap[k]?=w.heap[k]?:=fun k hk hn=>(hg.block k (by omega) (fun e=>hn e.symm)).trans (hX.block k hk trivial)
  have hb4:w4.heap[b]?=_:=(hk b hbl h.nb).trans h.blk
  have hvb:v'.ownBlock ≠ some b:=fun e=>by
    rcases hl b e with e | e
    · exact h.nb e
    · omega
  have hiv:∀ k,v'.ownBlock=some k→¬ I k:=fun k e hi=>by
    rcases hl k e with e | e
    · exact h.iv k e hi
    · have:=hI k hi;omega
  have hI4:∀ k,I k→(w4.setCell ⟨b,0,none⟩ v').heap[k]?=w.heap[k]?:=fun k hi=>(Rf.blk_ne _ (fun (e:k=b)=>h.ib (e ▸ hi))).trans (hk k (hI k hi) (fun e=>h.iv k e hi))
  refine { blk:=Rf.blk_set hb4 _ _,len:=by simp [h.len],row:=?_,sets:=?_,nb:=hvb,ib:=h.ib,iv:=hiv }
  · rw [pcells_snoc _ _ _ _ h.len,List.length_append,List.length_singleton]
    exact Rf.own_same hown (fun k e=>Rf.blk_ne _ (fun e2=>hvb (e2 ▸ e)))
  · intro k p z hp hz
    rcases get_snoc hp with hp | ⟨rfl,rfl⟩
    · have hkl:k < P.length:=(List.getElem?_eq_some_iff.1 hp).1
      rw [List.getElem?_append_left (by rw [h.len];exact hkl)] at hz
      obtain ⟨rs,h1,h2,h3⟩:=h.sets k p z hp hz
      exact ⟨rs,Rf.own_same h1 (fun j e=>hI4 j (h3 j e)),h2,h3⟩
    · rw [List.getElem?_append_right (by rw [h.len];exact Nat.le_refl _),h.len] at hz
      simp only [Nat.sub_self,List.getElem?_cons_zero,Option.some.injEq] at hz
      subst hz
      exact ⟨rs,Rf.own_same hu (fun j e=>hI4 j (hui j e)),hok,hui⟩
structure Mv (b:Nat) (w:World) (v:Value) (w':World) (v':Value):Prop where
  kept:Kept (fun k=>k ≠ b∧v.ownBlock ≠ some k) w w'
  lies:Lies w v v'
theorem Mv.refl (b:Nat) (w:World) (v:Value):Mv b w v w v:=⟨Kept.refl _ _,fun _ h=>.inl h⟩
theorem Mv.trans {b:Nat} {w w1 w2:World} {v v1 v2:Value} (h:Mv b w v w1 v1) (g:Mv b w1 v1 w2 v2):Mv b w v w2 v2 where
  kept:=h.kept.trans' g.kept (fun i hi hp=>⟨hp.1,fun e=>by
    rcases h.lies i e with e | e
    · exact hp.2 e
    · omega⟩)
  lies k e:=by
    have:=h.kept.size
    rcases g.lies k e with e | e
    · exact h.lies k e
    · exact .inr (by omega)
theorem Mv.of_below {b:Nat} {w w1:World} {v:Value} (h:Below w.heap.size w w1):Mv b w v w1 v:=⟨Kept.of_below h,fun _ h=>.inl h⟩
theorem Mv.tree {b:Nat} {w w1:World} {v v1:Value} {I:Nat→Prop} {T:List PNode} {B:List Nat} (h:Mv b w v w1 v1) (hT:Tree w I T B) (hb:¬ I b) (hv:∀ k,v.ownBlock=some k→¬ I k):Tree w1 I T B:=
  hT.same h.kept.size (fun k hk=>h.kept.block k (hT.lt k hk) ⟨fun e=>hb (e ▸ hk),fun e=>hv k e hk⟩)
theorem Mv.blk {b:Nat} {w w1:World} {v v1:Value} (h:Mv b w v w1 v1) {k:Nat} {o:Obj} (hk:w.heap[k]?=some o) (hb:k ≠ b) (hv:v.ownBlock ≠ some k):w1.heap[k]?=some o:=(h.kept.block k (lt_of_block hk) ⟨hb,hv⟩).trans hk
def Pl.or (p:Pl) (y:PB):Pl:={ p with be:=p.be.or y }
def lnkP (x y:PB) (k:Nat) (P:List Pl):List Pl:=P.mapIdx fun i p=>if decide (i < k) && x.has i then p.or y else p
def lnk (x y:PB) (P:List Pl):List Pl:=lnkP x y P.length P
theorem lnkP_len (x y:PB) (k:Nat) (P:List Pl):(lnkP x y k P).length=P.length:=by simp [lnkP]
theorem lnkP_zero (x y:PB) (P:List Pl):lnkP x y 0 P=P:=by
  unfold lnkP
  apply List.ext_getElem?
  intro i
  simp
theorem lnkP_get (x y:PB) (P:List Pl) (k:Nat) (p:Pl) (h:P[k]?=some p):(lnkP x y k P)[k]?=some p:=by
  simp [lnkP,h]
theorem lnkP_yes (x y:PB) (P:List Pl) (k:Nat) (p:Pl) (h:P[k]?=some p) (hx:x.has k=true):lnkP x y (k + 1) P=(lnkP x y k P).set k (p.or y):=by
  have hkl:k < P.length:=(List.getElem?_eq_some_iff.1 h).1
  apply List.ext_getElem?
  intro i
  by_cases e:k=i
  · subst e
    rw [List.getElem?_set_self (by rw [lnkP_len];exact hkl)]
    simp [lnkP,h,hx]
  · rw [List.getElem?_set_ne e]
    simp only [lnkP,List.getElem?_mapIdx]
    have:decide (i < k + 1)=decide (i < k):=by rw [decide_eq_decide];omega
    rw [this]
theorem lnkP_not (x y:PB) (P:List Pl) (k:Nat) (hx:x.has k=false):lnkP x y (k + 1) P=lnkP x y k P:=by
  apply List.ext_getElem?
  intro i
  by_cases e:k=i
  · subst e
    simp [lnkP,hx]
  · simp only [lnkP,List.getElem?_mapIdx]
    have:decide (i < k + 1)=decide (i < k):=by rw [decide_eq_decide];omega
    rw [this]
def PB.zero:PB:=⟨0,0⟩
def seqStep (s:List Pl × En) (r:List Pl × En):List Pl × En:=
  (lnk s.2.l r.2.f r.1,⟨if s.2.e=true then s.2.f.or r.2.f else s.2.f,if r.2.e=true then r.2.l.or s.2.l else r.2.l,s.2.e && r.2.e⟩)
def orStep (s:List Pl × En) (r:List Pl × En):List Pl × En:=(r.1,⟨s.2.f.or r.2.f,s.2.l.or r.2.l,s.2.e || r.2.e⟩)
def repStep (k:Nat) (r:List Pl × En):List Pl × En:=
  (if k=63 then r.1 else lnk r.2.l r.2.f r.1,⟨r.2.f,r.2.l,if k=43 then r.2.e else true⟩)
def addF (T:List PNode):Nat→Nat→List Pl→List Pl × En
  | 0,_,P=>(P,⟨PB.zero,PB.zero,false⟩)
  | fu + 1,n,P=>match T[n]? with
    | none=>(P,⟨PB.zero,PB.zero,false⟩)
    | some x =>
      if G.lone x=true then addF T fu (x.parts.headD 0) P
      else if x.kind=115 then (P ++ [⟨x,0,false,⟨0,0⟩⟩],⟨PB.zero.with P.length,PB.zero.with P.length,false⟩)
      else if x.kind=113 then x.parts.foldl (fun s p=>seqStep s (addF T fu p s.1)) (P,⟨PB.zero,PB.zero,true⟩)
      else if x.kind=99 then x.parts.foldl (fun s p=>orStep s (addF T fu p s.1)) (P,⟨PB.zero,PB.zero,false⟩)
      else repStep x.kind (addF T fu (x.parts.headD 0) P)
end Pr
end Go.Proofs.YtpgcidpghmoibaaGreatDoor

namespace Go.Proofs.YtpgcidpghmoibaaGreatDoor
namespace Pr
open Go.RowKit
open Rf (Kept Lies)
open G (PNode)
def endCells (x:En):Array Value:=#[.int .u64 x.f.a,.int .u64 x.f.c,.int .u64 x.l.a,.int .u64 x.l.c,.bool x.e]
def EnAt (w:World) (k:Nat) (x:En):Prop:=w.heap[k]?=some (.cells (endCells x) 184 (0,0))
def setF (w:World) (k:Nat) (x:PB):World:=(w.setCell ⟨k,0,none⟩ (.int .u64 x.a)).setCell ⟨k,1,none⟩ (.int .u64 x.c)
def setL (w:World) (k:Nat) (x:PB):World:=(w.setCell ⟨k,2,none⟩ (.int .u64 x.a)).setCell ⟨k,3,none⟩ (.int .u64 x.c)
def setE (w:World) (k:Nat) (x:Bool):World:=w.setCell ⟨k,4,none⟩ (.bool x)
def setEn (w:World) (k:Nat) (x:En):World:=setE (setL (setF w k x.f) k x.l) k x.e
theorem EnAt.setF {w:World} {k:Nat} {y:En} (h:EnAt w k y) (x:PB):EnAt (setF w k x) k ⟨x,y.l,y.e⟩:=Rf.blk_set (Rf.blk_set h _ _) _ _
theorem EnAt.setL {w:World} {k:Nat} {y:En} (h:EnAt w k y) (x:PB):EnAt (setL w k x) k ⟨y.f,x,y.e⟩:=Rf.blk_set (Rf.blk_set h _ _) _ _
theorem EnAt.setE {w:World} {k:Nat} {y:En} (h:EnAt w k y) (x:Bool):EnAt (setE w k x) k ⟨y.f,y.l,x⟩:=Rf.blk_set h _ _
theorem EnAt.setEn {w:World} {k:Nat} {y:En} (h:EnAt w k y) (x:En):EnAt (setEn w k x) k x:=((h.setF x.f).setL x.l).setE x.e
theorem setF_ne {w:World} {k j:Nat} (x:PB) (h:j ≠ k):(setF w k x).heap[j]?=w.heap[j]?:=(Rf.blk_ne _ h).trans (Rf.blk_ne _ h)
theorem setL_ne {w:World} {k j:Nat} (x:PB) (h:j ≠ k):(setL w k x).heap[j]?=w.heap[j]?:=(Rf.blk_ne _ h).trans (Rf.blk_ne _ h)
theorem setE_ne {w:World} {k j:Nat} (x:Bool) (h:j ≠ k):(setE w k x).heap[j]?=w.heap[j]?:=Rf.blk_ne _ h
theorem setEn_ne {w:World} {k j:Nat} (x:En) (h:j ≠ k):(setEn w k x).heap[j]?=w.heap[j]?:=(setE_ne _ h).trans ((setL_ne _ h).trans (setF_ne _ h))
structure EnReads (w:World) (k:Nat) (x:En):Prop where
  c0:w.cell? ⟨k,0,none⟩=some (.int .u64 x.f.a)
  c1:w.cell? ⟨k,1,none⟩=some (.int .u64 x.f.c)
  c2:w.cell? ⟨k,2,none⟩=some (.int .u64 x.l.a)
  c3:w.cell? ⟨k,3,none⟩=some (.int .u64 x.l.c)
  c4:w.cell? ⟨k,4,none⟩=some (.bool x.e)
  fr:∀ o,w.frozen? ⟨k,o,none⟩=false
theorem EnAt.reads {w:World} {k:Nat} {x:En} (h:EnAt w k x):EnReads w k x:=
  ⟨Rf.cell_blk h 0 _ rfl,Rf.cell_blk h 1 _ rfl,Rf.cell_blk h 2 _ rfl,Rf.cell_blk h 3 _ rfl,Rf.cell_blk h 4 _ rfl,fun o=>Rf.free_blk h o⟩
theorem Mv.beside {b:Nat} {w w1 w2:World} {v v1:Value} (h:Mv b w v w1 v1) {k:Nat} (hk:w.heap.size≤k) (hos:w2.os=w1.os) (ht:w2.tape=w1.tape) (ho:w2.output=w1.output) (hs:w2.heap.size=w1.heap.size) (hn:∀ j,j ≠ k→w2.heap[j]?=w1.heap[j]?):Mv b w v w2 v1:=
  ⟨⟨hos.trans h.kept.os,ht.trans h.kept.tape,ho.trans h.kept.output,by rw [hs];exact h.kept.size,fun j hj hp=>(hn j (by omega)).trans (h.kept.block j hj hp)⟩,h.lies⟩
theorem Mv.setF {b:Nat} {w w1:World} {v v1:Value} (h:Mv b w v w1 v1) {k:Nat} (hk:w.heap.size≤k) (x:PB):Mv b w v (setF w1 k x) v1:=h.beside hk rfl rfl rfl (by simp [Pr.setF,World.setCell]) (fun _ hj=>setF_ne x hj)
theorem Mv.setL {b:Nat} {w w1:World} {v v1:Value} (h:Mv b w v w1 v1) {k:Nat} (hk:w.heap.size≤k) (x:PB):Mv b w v (setL w1 k x) v1:=h.beside hk rfl rfl rfl (by simp [Pr.setL,World.setCell]) (fun _ hj=>setL_ne x hj)
theorem Mv.setE {b:Nat} {w w1:World} {v v1:Value} (h:Mv b w v w1 v1) {k:Nat} (hk:w.heap.size≤k) (x:Bool):Mv b w v (setE w1 k x) v1:=h.beside hk rfl rfl rfl (by simp [Pr.setE,World.setCell]) (fun _ hj=>setE_ne x hj)
theorem Mv.setEn {b:Nat} {w w1:World} {v v1:Value} (h:Mv b w v w1 v1) {k:Nat} (hk:w.heap.size≤k) (x:En):Mv b w v (setEn w1 k x) v1:=((h.setF hk x.f).setL hk x.l).setE hk x.e
theorem MaAt.beside {w w2:World} {I:Nat→Prop} {b:Nat} {v:Value} {P:List Pl} {V:List Value} {f:PB} (h:MaAt w I b v P V f) {k:Nat} (hb:k ≠ b) (hv:v.ownBlock ≠ some k) (hi:¬ I k) (hn:∀ j,j ≠ k→w2.heap[j]?=w.heap[j]?):MaAt w2 I b v P V f:=
  h.same (fun j e=>hn j (by
    rintro rfl
    rcases e with e | e | e
    · exact hb e
    · exact hv e
    · exact hi e))
end Pr
end Go.Proofs.YtpgcidpghmoibaaGreatDoor

namespace Go.Proofs.YtpgcidpghmoibaaGreatDoor
namespace Pr
open Go.RowKit
open Rf (Kept Lies)
open G (PNode)
def En.zero:En:=⟨PB.zero,PB.zero,false⟩
structure Hd (w0:World) (I:Nat→Prop) (b:Nat) (v0:Value) (P:List Pl) (V:List Value) (f:PB) (wh:En) (v:Value) (w:World):Prop where
  ma:MaAt w I b v P V f
  mv:Mv b w0 v0 w v
  e4:EnAt w w0.heap.size En.zero
  e5:EnAt w (w0.heap.size + 1) wh
  nv:∀ j,v.ownBlock=some j→j ≠ w0.heap.size∧j ≠ w0.heap.size + 1
  lt:b < w0.heap.size
  hI:∀ k,I k→k < w0.heap.size
structure Mid (w0:World) (I:Nat→Prop) (b:Nat) (v0:Value) (k8:Nat) (P:List Pl) (V:List Value) (f:PB) (wh nx:En) (v:Value) (w:World):Prop where
  hd:Hd w0 I b v0 P V f wh v w
  e8:EnAt w k8 nx
  n8:w0.heap.size + 1 < k8
  nv:∀ j,v.ownBlock=some j→j ≠ k8
theorem Hd.below {w0:World} {I:Nat→Prop} {b:Nat} {v0:Value} {P:List Pl} {V:List Value} {f:PB} {wh:En} {v:Value} {w w2:World} (h:Hd w0 I b v0 P V f wh v w) (hb:Below w.heap.size w w2):Hd w0 I b v0 P V f wh v w2 where
  ma:=h.ma.below (fun k hk=>Nat.lt_of_lt_of_le (h.hI k hk) h.mv.kept.size) hb
  mv:=h.mv.trans (Mv.of_below hb)
  e4:=(hb.block _ (lt_of_block h.e4)).trans h.e4
  e5:=(hb.block _ (lt_of_block h.e5)).trans h.e5
  nv:=h.nv
  lt:=h.lt
  hI:=h.hI
theorem Mid.below {w0:World} {I:Nat→Prop} {b:Nat} {v0:Value} {k8:Nat} {P:List Pl} {V:List Value} {f:PB} {wh nx:En} {v:Value} {w w2:World} (h:Mid w0 I b v0 k8 P V f wh nx v w) (hb:Below w.heap.size w w2):Mid w0 I b v0 k8 P V f wh nx v w2:=
  ⟨h.hd.below hb,(hb.block _ (lt_of_block h.e8)).trans h.e8,h.n8,h.nv⟩
theorem Hd.add {w0:World} {I:Nat→Prop} {b:Nat} {v0:Value} {P P1:List Pl} {V V1:List Value} {f:PB} {wh:En} {v v1:Value} {w w1:World} (h:Hd w0 I b v0 P V f wh v w) (hM:MaAt w1 I b v1 P1 V1 f) (hv:Mv b w v w1 v1) (nx:En) :
    Mid w0 I b v0 w1.heap.size P1 V1 f wh nx v1 (w1.alloc (.cells #[.int .u64 nx.f.a,.int .u64 nx.f.c,.int .u64 nx.l.a,.int .u64 nx.l.c,.bool nx.e] 184)):=by
  have h5:=lt_of_block h.e5
  have hs:=hv.kept.size
  have hlt:=h.lt
  have hb:Below w1.heap.size w1 (w1.alloc (.cells #[.int .u64 nx.f.a,.int .u64 nx.f.c,.int .u64 nx.l.a,.int .u64 nx.l.c,.bool nx.e] 184)):=(Below.refl _ _).alloc (Nat.le_refl _) _
  have hd1:Hd w0 I b v0 P1 V1 f wh v1 w1:={ ma:=hM,mv:=h.mv.trans hv,e4:=hv.blk h.e4 (by omega) (fun e=>(h.nv _ e).1 rfl),e5:=hv.blk h.e5 (by omega) (fun e=>(h.nv _ e).2 rfl),lt:=h.lt,hI:=h.hI,nv:=fun j e=>by
                                                                  rcases hv.lies j e with e | e
                                                                  · exact h.nv j e
                                                                  · omega }
  exact ⟨hd1.below hb,heap_alloc_new w1 _,by omega,fun j e=>by have:=(hM.row.lt j e).2;omega⟩
theorem Mid.turned {w0:World} {I:Nat→Prop} {b:Nat} {v0:Value} {k8:Nat} {P P':List Pl} {V:List Value} {f:PB} {wh nx:En} {v:Value} {w w2:World} (h:Mid w0 I b v0 k8 P V f wh nx v w) (hM:MaAt w2 I b v P' V f) (hv:Mv b w v w2 v):Mid w0 I b v0 k8 P' V f wh nx v w2:=by
  have hlt:=h.hd.lt
  have h8:=h.n8
  exact ⟨{ ma:=hM,mv:=h.hd.mv.trans hv,e4:=hv.blk h.hd.e4 (by omega) (fun e=>(h.hd.nv _ e).1 rfl),e5:=hv.blk h.hd.e5 (by omega) (fun e=>(h.hd.nv _ e).2 rfl),lt:=h.hd.lt,hI:=h.hd.hI,nv:=h.hd.nv },hv.blk h.e8 (by omega) (fun e=>h.nv _ e rfl),h.n8,h.nv⟩
theorem Mid.set5 {w0:World} {I:Nat→Prop} {b:Nat} {v0:Value} {k8:Nat} {P:List Pl} {V:List Value} {f:PB} {wh wh' nx:En} {v:Value} {w w2:World} (h:Mid w0 I b v0 k8 P V f wh nx v w) (he:EnAt w2 (w0.heap.size + 1) wh') (hm:Mv b w0 v0 w2 v) (hn:∀ j,j ≠ w0.heap.size + 1→w2.heap[j]?=w.heap[j]?):Mid w0 I b v0 k8 P V f wh' nx v w2:=by
  have hlt:=h.hd.lt
  have h8:=h.n8
  exact ⟨{ ma:=h.hd.ma.beside (k:=w0.heap.size + 1) (by omega) (fun e=>(h.hd.nv _ e).2 rfl) (fun e=>by have:=h.hd.hI _ e;omega) hn,mv:=hm,e4:=(hn _ (by omega)).trans h.hd.e4,e5:=he,lt:=h.hd.lt,hI:=h.hd.hI,nv:=h.hd.nv },(hn _ (by omega)).trans h.e8,h.n8,h.nv⟩
theorem Mid.f5 {w0:World} {I:Nat→Prop} {b:Nat} {v0:Value} {k8:Nat} {P:List Pl} {V:List Value} {f:PB} {wh nx:En} {v:Value} {w:World} (h:Mid w0 I b v0 k8 P V f wh nx v w) (x:PB):Mid w0 I b v0 k8 P V f ⟨x,wh.l,wh.e⟩ nx v (setF w (w0.heap.size + 1) x):=
  h.set5 (h.hd.e5.setF x) (h.hd.mv.setF (by omega) x) (fun _ hj=>setF_ne x hj)
theorem Mid.l5 {w0:World} {I:Nat→Prop} {b:Nat} {v0:Value} {k8:Nat} {P:List Pl} {V:List Value} {f:PB} {wh nx:En} {v:Value} {w:World} (h:Mid w0 I b v0 k8 P V f wh nx v w) (x:PB):Mid w0 I b v0 k8 P V f ⟨wh.f,x,wh.e⟩ nx v (setL w (w0.heap.size + 1) x):=
  h.set5 (h.hd.e5.setL x) (h.hd.mv.setL (by omega) x) (fun _ hj=>setL_ne x hj)
theorem Mid.e5' {w0:World} {I:Nat→Prop} {b:Nat} {v0:Value} {k8:Nat} {P:List Pl} {V:List Value} {f:PB} {wh nx:En} {v:Value} {w:World} (h:Mid w0 I b v0 k8 P V f wh nx v w) (x:Bool):Mid w0 I b v0 k8 P V f ⟨wh.f,wh.l,x⟩ nx v (setE w (w0.heap.size + 1) x):=
  h.set5 (h.hd.e5.setE x) (h.hd.mv.setE (by omega) x) (fun _ hj=>setE_ne x hj)
theorem Mid.l8 {w0:World} {I:Nat→Prop} {b:Nat} {v0:Value} {k8:Nat} {P:List Pl} {V:List Value} {f:PB} {wh nx:En} {v:Value} {w:World} (h:Mid w0 I b v0 k8 P V f wh nx v w) (x:PB):Mid w0 I b v0 k8 P V f wh ⟨nx.f,x,nx.e⟩ v (setL w k8 x):=by
  have hlt:=h.hd.lt
  have h8:=h.n8
  have hn:∀ j,j ≠ k8→(setL w k8 x).heap[j]?=w.heap[j]?:=fun _ hj=>setL_ne x hj
  exact ⟨{ ma:=h.hd.ma.beside (k:=k8) (by omega) (fun e=>h.nv _ e rfl) (fun e=>by have:=h.hd.hI _ e;omega) hn,mv:=h.hd.mv.setL (by omega) x,e4:=(hn _ (by omega)).trans h.hd.e4,e5:=(hn _ (by omega)).trans h.hd.e5,lt:=h.hd.lt,hI:=h.hd.hI,nv:=h.hd.nv },h.e8.setL x,h.n8,h.nv⟩
theorem Hd.start {w:World} {I:Nat→Prop} {b:Nat} {v:Value} {P:List Pl} {V:List Value} {f:PB} (hM:MaAt w I b v P V f) (hI:∀ k,I k→k < w.heap.size) (wh:En) :
    Hd w I b v P V f wh v ((w.alloc (.cells #[.int .u64 0,.int .u64 0,.int .u64 0,.int .u64 0,.bool false] 184)).alloc (.cells #[.int .u64 wh.f.a,.int .u64 wh.f.c,.int .u64 wh.l.a,.int .u64 wh.l.c,.bool wh.e] 184)) where
  ma:=hM.below hI (((Below.refl _ w).alloc (Nat.le_refl _) _).alloc (by simp) _)
  mv:=Mv.of_below (((Below.refl _ w).alloc (Nat.le_refl _) _).alloc (by simp) _)
  e4:=Rf.blk_alloc _ (heap_alloc_new w _)
  e5:=by
    have:=heap_alloc_new (w.alloc (.cells #[.int .u64 0,.int .u64 0,.int .u64 0,.int .u64 0,.bool false] 184)) (.cells #[.int .u64 wh.f.a,.int .u64 wh.f.c,.int .u64 wh.l.a,.int .u64 wh.l.c,.bool wh.e] 184)
    rw [show (w.alloc (.cells #[.int .u64 0,.int .u64 0,.int .u64 0,.int .u64 0,.bool false] 184)).heap.size=w.heap.size + 1 by simp] at this
    exact this
  nv j e:=by have:=(hM.row.lt j e).2;omega
  lt:=lt_of_block hM.blk
  hI:=hI
def APost (I:Nat→Prop) (b:Nat) (f:PB) (w:World) (v:Value) (r:List Pl × En) (e:Ending) (w':World):Prop:=
  e=.returned r.2.val∧∃ v' V',MaAt w' I b v' r.1 V' f∧Mv b w v w' v'
theorem Hd.done {w0:World} {I:Nat→Prop} {b:Nat} {v0:Value} {P:List Pl} {V:List Value} {f:PB} {wh:En} {v:Value} {w:World} (h:Hd w0 I b v0 P V f wh v w):EnAt (setEn w w0.heap.size wh) w0.heap.size wh∧MaAt (setEn w w0.heap.size wh) I b v P V f∧Mv b w0 v0 (setEn w w0.heap.size wh) v:=by
  have hlt:=h.lt
  exact ⟨h.e4.setEn wh,h.ma.beside (k:=w0.heap.size) (by omega) (fun e=>(h.nv _ e).1 rfl) (fun e=>by have:=h.hI _ e;omega) (fun j hj=>setEn_ne wh hj),h.mv.setEn (Nat.le_refl _) wh⟩
structure Parts (w:World) (I:Nat→Prop) (B ps:List Nat) (vp:Value):Prop where
  row:w.ownsRow 0 143 1 vp ps.length (ptrs B ps)
  imm:∀ k,vp.ownBlock=some k→I k
theorem Parts.mv {w0 w:World} {I:Nat→Prop} {b:Nat} {v0 v:Value} {B ps:List Nat} {vp:Value} (h:Parts w0 I B ps vp) (hm:Mv b w0 v0 w v) (hI:∀ k,I k→k < w0.heap.size) (hb:¬ I b) (hv:∀ k,v0.ownBlock=some k→¬ I k):Parts w I B ps vp:=
  ⟨Rf.own_same h.row (fun k e=>hm.kept.block k (hI k (h.imm k e)) ⟨fun e2=>hb (e2 ▸ h.imm k e),fun e2=>hv k e2 (h.imm k e)⟩),h.imm⟩
end Pr
end Go.Proofs.YtpgcidpghmoibaaGreatDoor

namespace Go.Proofs.YtpgcidpghmoibaaGreatDoor
namespace Pr
open Go.RowKit
open G (PNode)
theorem foldl_same {α β:Type} {F H:β→α→β}:∀ (l:List α) (i:β),(∀ s,∀ p ∈ l,F s p=H s p)→l.foldl F i=l.foldl H i
  | [],_,_=>rfl
  | a :: l,i,h=>by
    simp only [List.foldl_cons]
    rw [h i a (by simp)]
    exact foldl_same l _ (fun s p hp=>h s p (by simp [hp]))
theorem addF_fuel {T:List PNode} (hT:G.WF T):∀ (n f g:Nat) (P:List Pl),n < f→n < g→addF T f n P=addF T g n P:=by
  intro n
  induction n using Nat.strongRecOn with
  | ind n ih =>
    intro f g P hf hg
    match f,g,hf,hg with
    | f + 1,g + 1,hf,hg =>
      cases hx:T[n]? with
      | none=>simp [addF,hx]
      | some x =>
        have hps:=(hT n x hx).parts
        have hhd:x.parts ≠ []→x.parts.headD 0 < n:=fun hne=>by
          match hp:x.parts,hne with
          | p :: ps,_=>exact hps p (by rw [hp];simp)
        simp only [addF,hx]
        by_cases h1:G.lone x=true
        · rw [if_pos h1,if_pos h1]
          obtain ⟨p,hp⟩:=G.lone_head h1
          exact ih _ (hhd (by rw [hp];simp)) f g P (by have:=hhd (by rw [hp];simp);omega) (by have:=hhd (by rw [hp];simp);omega)
        · rw [if_neg h1,if_neg h1]
          by_cases h2:x.kind=115
          · rw [if_pos h2,if_pos h2]
          · rw [if_neg h2,if_neg h2]
            by_cases h3:x.kind=113
            · rw [if_pos h3,if_pos h3]
              exact foldl_same _ _ (fun s p hp=>by have:=hps p hp;rw [ih p this f g s.1 (by omega) (by omega)])
            · rw [if_neg h3,if_neg h3]
              by_cases h4:x.kind=99
              · rw [if_pos h4,if_pos h4]
                exact foldl_same _ _ (fun s p hp=>by have:=hps p hp;rw [ih p this f g s.1 (by omega) (by omega)])
              · rw [if_neg h4,if_neg h4]
                have hne:x.parts ≠ []:=by
                  rcases (hT n x hx).kind with ⟨k,_⟩ | ⟨k,_⟩ | ⟨_,k⟩
                  · exact absurd k h2
                  · omega
                  · intro e;rw [e] at k;simp at k
                have:=hhd hne
                rw [ih _ this f g P (by omega) (by omega)]
def adN (T:List PNode) (n:Nat) (P:List Pl):List Pl × En:=addF T (n + 1) n P
def foldS (T:List PNode) (ps:List Nat) (s:List Pl × En):List Pl × En:=ps.foldl (fun s p=>seqStep s (adN T p s.1)) s
def foldO (T:List PNode) (ps:List Nat) (s:List Pl × En):List Pl × En:=ps.foldl (fun s p=>orStep s (adN T p s.1)) s
theorem foldS_snoc (T:List PNode) (ps:List Nat) (p:Nat) (s:List Pl × En):foldS T (ps ++ [p]) s=seqStep (foldS T ps s) (adN T p (foldS T ps s).1):=by simp [foldS]
theorem foldO_snoc (T:List PNode) (ps:List Nat) (p:Nat) (s:List Pl × En):foldO T (ps ++ [p]) s=orStep (foldO T ps s) (adN T p (foldO T ps s).1):=by simp [foldO]
theorem adN_eq {T:List PNode} (hT:G.WF T) {n:Nat} {x:PNode} (hx:T[n]?=some x) (P:List Pl):adN T n P =
    if G.lone x=true then adN T (x.parts.headD 0) P
    else if x.kind=115 then (P ++ [⟨x,0,false,⟨0,0⟩⟩],⟨PB.zero.with P.length,PB.zero.with P.length,false⟩)
    else if x.kind=113 then foldS T x.parts (P,⟨PB.zero,PB.zero,true⟩)
    else if x.kind=99 then foldO T x.parts (P,⟨PB.zero,PB.zero,false⟩)
    else repStep x.kind (adN T (x.parts.headD 0) P):=by
  have hps:=(hT n x hx).parts
  have hhd:x.parts ≠ []→x.parts.headD 0 < n:=fun hne=>by
    match hp:x.parts,hne with
    | p :: ps,_=>exact hps p (by rw [hp];simp)
  rw [adN,addF,hx]
  simp only
  by_cases h1:G.lone x=true
  · rw [if_pos h1,if_pos h1]
    obtain ⟨p,hp⟩:=G.lone_head h1
    have:=hhd (by rw [hp];simp)
    exact addF_fuel hT _ _ _ P this (by omega)
  · rw [if_neg h1,if_neg h1]
    by_cases h2:x.kind=115
    · rw [if_pos h2,if_pos h2]
    · rw [if_neg h2,if_neg h2]
      by_cases h3:x.kind=113
      · rw [if_pos h3,if_pos h3]
        exact foldl_same _ _ (fun s p hp=>by have:=hps p hp;rw [adN,addF_fuel hT p n (p + 1) s.1 (by omega) (by omega)])
      · rw [if_neg h3,if_neg h3]
        by_cases h4:x.kind=99
        · rw [if_pos h4,if_pos h4]
          exact foldl_same _ _ (fun s p hp=>by have:=hps p hp;rw [adN,addF_fuel hT p n (p + 1) s.1 (by omega) (by omega)])
        · rw [if_neg h4,if_neg h4]
          have hne:x.parts ≠ []:=by
            rcases (hT n x hx).kind with ⟨k,_⟩ | ⟨k,_⟩ | ⟨_,k⟩
            · exact absurd k h2
            · omega
            · intro e;rw [e] at k;simp at k
          have:=hhd hne
          rw [adN,addF_fuel hT _ n (x.parts.headD 0 + 1) P this (by omega)]
def xs (P:List Pl):List PNode:=P.map Pl.x
theorem xs_len (P:List Pl):(xs P).length=P.length:=by simp [xs]
theorem lnk_xs (x y:PB) (P:List Pl):xs (lnk x y P)=xs P:=by
  unfold xs lnk lnkP
  apply List.ext_getElem?
  intro i
  simp only [List.getElem?_map,List.getElem?_mapIdx]
  cases P[i]? with
  | none=>rfl
  | some p =>
    simp only [Option.map_some]
    split <;> rfl
theorem foldS_xs {T:List PNode}:∀ (ps:List Nat) (s:List Pl × En),(∀ p ∈ ps,∀ P,xs (adN T p P).1=xs P ++ G.lv T p)→xs (foldS T ps s).1=xs s.1 ++ ps.flatMap (G.lv T)
  | [],s,_=>by simp [foldS]
  | p :: ps,s,h=>by
    have ih:=foldS_xs ps (seqStep s (adN T p s.1)) (fun q hq=>h q (by simp [hq]))
    have e:foldS T (p :: ps) s=foldS T ps (seqStep s (adN T p s.1)):=rfl
    rw [e,ih]
    show xs (lnk _ _ _) ++ _=_
    rw [lnk_xs,h p (by simp)]
    simp
theorem foldO_xs {T:List PNode}:∀ (ps:List Nat) (s:List Pl × En),(∀ p ∈ ps,∀ P,xs (adN T p P).1=xs P ++ G.lv T p)→xs (foldO T ps s).1=xs s.1 ++ ps.flatMap (G.lv T)
  | [],s,_=>by simp [foldO]
  | p :: ps,s,h=>by
    have ih:=foldO_xs ps (orStep s (adN T p s.1)) (fun q hq=>h q (by simp [hq]))
    have e:foldO T (p :: ps) s=foldO T ps (orStep s (adN T p s.1)):=rfl
    rw [e,ih]
    show xs (adN T p s.1).1 ++ _=_
    rw [h p (by simp)]
    simp
theorem adN_xs {T:List PNode} (hT:G.WF T):∀ (n:Nat),n < T.length→∀ P,xs (adN T n P).1=xs P ++ G.lv T n:=by
  intro n
  induction n using Nat.strongRecOn with
  | ind n ih =>
    intro hn P
    have hx:T[n]?=some (T[n]'hn):=List.getElem?_eq_getElem hn
    generalize T[n]'hn=x at hx
    have hps:=(hT n x hx).parts
    have hih:∀ p ∈ x.parts,∀ P,xs (adN T p P).1=xs P ++ G.lv T p:=fun p hp P=>by have:=hps p hp;exact ih p this (by omega) P
    rw [adN_eq hT hx,G.lv_step hT hx]
    by_cases h1:G.lone x=true
    · have hk:x.kind ≠ 115:=by
        simp only [G.lone,Bool.and_eq_true,Bool.or_eq_true,decide_eq_true_eq] at h1
        omega
      rw [if_pos h1,if_neg hk]
      obtain ⟨p,hp⟩:=G.lone_head h1
      rw [hp]
      show xs (adN T p P).1=_
      rw [hih p (by rw [hp];simp)]
      simp
    · rw [if_neg h1]
      by_cases h2:x.kind=115
      · rw [if_pos h2,if_pos h2]
        simp [xs]
      · rw [if_neg h2,if_neg h2]
        by_cases h3:x.kind=113
        · rw [if_pos h3]
          exact foldS_xs _ _ hih
        · rw [if_neg h3]
          by_cases h4:x.kind=99
          · rw [if_pos h4]
            exact foldO_xs _ _ hih
          · rw [if_neg h4]
            have hk:x.parts.length=1:=by
              rcases (hT n x hx).kind with ⟨k,_⟩ | ⟨k,_⟩ | ⟨_,k⟩
              · exact absurd k h2
              · omega
              · exact k
            obtain ⟨p,hp⟩:=List.length_eq_one_iff.1 hk
            rw [hp]
            have e:xs (repStep x.kind (adN T p P)).1=xs (adN T p P).1:=by
              unfold repStep
              by_cases h5:x.kind=63
              · rw [if_pos h5]
              · rw [if_neg h5]
                exact lnk_xs _ _ _
            show xs (repStep x.kind (adN T p P)).1=_
            rw [e,hih p (by rw [hp];simp)]
            simp
theorem adN_len {T:List PNode} (hT:G.WF T) (n:Nat) (hn:n < T.length) (P:List Pl):(adN T n P).1.length=P.length + (G.lv T n).length:=by
  rw [← xs_len,adN_xs hT n hn,List.length_append,xs_len]
theorem foldS_len {T:List PNode} (hT:G.WF T) (ps:List Nat) (hp:∀ p ∈ ps,p < T.length) (s:List Pl × En):(foldS T ps s).1.length=s.1.length + (ps.flatMap (G.lv T)).length:=by
  rw [← xs_len,foldS_xs ps s (fun p h P=>adN_xs hT p (hp p h) P),List.length_append,xs_len]
theorem foldO_len {T:List PNode} (hT:G.WF T) (ps:List Nat) (hp:∀ p ∈ ps,p < T.length) (s:List Pl × En):(foldO T ps s).1.length=s.1.length + (ps.flatMap (G.lv T)).length:=by
  rw [← xs_len,foldO_xs ps s (fun p h P=>adN_xs hT p (hp p h) P),List.length_append,xs_len]
theorem flat_take {T:List PNode} {ps:List Nat} {k p:Nat} (h:ps[k]?=some p):((ps.take k).flatMap (G.lv T)).length + (G.lv T p).length≤(ps.flatMap (G.lv T)).length:=by
  have hk:k < ps.length:=(List.getElem?_eq_some_iff.1 h).1
  have e:ps=ps.take k ++ p :: ps.drop (k + 1):=by
    rw [← List.getElem_of_getElem? h |>.2]
    simp
  conv=>rhs;rw [e]
  simp
end Pr
end Go.Proofs.YtpgcidpghmoibaaGreatDoor
