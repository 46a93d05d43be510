/-
  THE WORLD of the statement All, as memory
  THE WALK of the world's over
-/
import Derived.Test.YtpgcidpghmoibaaGreatDoorK46
import Derived.Test.YtpgcidpghmoibaaGreatDoorK25
import Derived.Test.YtpgcidpghmoibaaGreatDoorK45
namespace Go.Proofs.YtpgcidpghmoibaaGreatDoor
namespace Pr
open Go.RowKit
open G (PNode)
open Cs
def Ty (w:World) (k:Nat) (t:TypeId):Prop:=∃ cs,w.heap[k]?=some (.cells cs t (0,0))
theorem Ty.one {w:World} {k:Nat} {t u:TypeId} (h:Ty w k t) (g:Ty w k u):t=u:=by
  obtain ⟨cs,h⟩:=h
  obtain ⟨ds,g⟩:=g
  rw [h] at g
  simp only [Option.some.injEq,Obj.cells.injEq] at g
  exact g.2.1
theorem Ty.same {w w':World} {k:Nat} {t:TypeId} (h:Ty w k t) (e:w'.heap[k]?=w.heap[k]?):Ty w' k t:=by
  obtain ⟨cs,h⟩:=h
  exact ⟨cs,e.trans h⟩
theorem Ty.row {w:World} {e size n:Nat} {v:Value} {xs:List Value} (h:w.ownsRow 0 e size v n xs) {k:Nat} (hk:v.ownBlock=some k):Ty w k e:=by
  rcases h.2 with ⟨rfl,_⟩ | ⟨g,cap,cur,rfl,_,hg,_⟩
  · cases hk
  · simp only [Value.ownBlock,Option.some.injEq] at hk
    subst hk
    exact ⟨cur,hg⟩
def rulT (t:TypeId):Bool:=t == 113 || t == 155 || t == 158 || t == 197
def IsR (w:World) (k:Nat):Prop:=∃ t,Ty w k t∧rulT t=true
def NotR (w:World) (k:Nat):Prop:=∃ t,Ty w k t∧rulT t=false
theorem NotR.no {w:World} {k:Nat} (h:NotR w k) (g:IsR w k):False:=by
  obtain ⟨t,h1,h2⟩:=h
  obtain ⟨u,g1,g2⟩:=g
  rw [h1.one g1,g2] at h2
  cases h2
theorem NotR.same {w w':World} {k:Nat} (h:NotR w k) (e:w'.heap[k]?=w.heap[k]?):NotR w' k:=by
  obtain ⟨t,h1,h2⟩:=h
  exact ⟨t,h1.same e,h2⟩
theorem NotR.lt {w:World} {k:Nat} (h:NotR w k):k < w.heap.size:=by
  obtain ⟨t,⟨cs,h⟩,_⟩:=h
  exact lt_of_block h
theorem tight {w:World} {b c:Nat} {S:Nat→Prop} (h:Book w b S c):∃ S',Book w b S' c∧(∀ k,S' k→S k)∧S' b∧∀ k,S' k→NotR w k:=by
  obtain ⟨rL,rM,L,M,BA,h1,h2,h3⟩:=h
  refine ⟨InBook b rL rM L,⟨rL,rM,L,M,BA,h1,h2,fun k h=>h⟩,h3,.inl rfl,?_⟩
  rintro k (rfl | ⟨t,e⟩ | ⟨t,e⟩ | ⟨t,l,hl,e⟩)
  · exact ⟨_,⟨_,BA.blk⟩,by decide⟩
  · refine ⟨_,Ty.row (BA.oL t) e,?_⟩
    match t with | 0=>decide | 1=>decide | 2=>decide
  · exact ⟨_,Ty.row (BA.oM t) e,by decide⟩
  · obtain ⟨i,hi,hil⟩:=List.mem_iff_getElem.1 hl
    have hm:i < (M t).length:=by rw [← (h1 t).1];exact hi
    obtain ⟨n,hg⟩:=BA.good t i l (M t)[i] (by rw [List.getElem?_eq_getElem hi,hil]) (List.getElem?_eq_getElem hm)
    refine ⟨_,Ty.row hg e,?_⟩
    match t with | 0=>decide | 1=>decide | 2=>decide
structure Fit (T:List PNode) (Q:List Nat):Prop where
  wf:G.WF T
  lt:∀ p ∈ Q,p < T.length
  few:Q.length≤50
  sz:G.sizeOf T Q≤100
  fe:G.Few 2001 T
  tl:T.length≤8000
structure PairAt (w:World) (F:Nat→Prop) (r q:Nat):Prop where
  ex:∃ T Q I m v V L B Fr J,RuB w r T Q m∧MaAt w I m v (machN T Q Q.length).1 V (machN T Q Q.length).2∧Rf.RIn w q T Q L B Fr J∧Fit T Q∧∀ k,(k=r ∨ k=m ∨ v.ownBlock=some k ∨ I k ∨ J k)→F k∧k < w.heap.size
theorem PairAt.same {w w':World} {F:Nat→Prop} {r q:Nat} (h:PairAt w F r q) (hs:w.heap.size≤w'.heap.size) (hk:∀ k,F k→k < w.heap.size→w'.heap[k]?=w.heap[k]?):PairAt w' F r q:=by
  obtain ⟨T,Q,I,m,v,V,L,B,Fr,J,h1,h2,h3,h4,h5⟩:=h
  have hx:∀ k,(k=r ∨ k=m ∨ v.ownBlock=some k ∨ I k ∨ J k)→w'.heap[k]?=w.heap[k]?:=fun k e=>hk k (h5 k e).1 (h5 k e).2
  refine ⟨T,Q,I,m,v,V,L,B,Fr,J,h1.same (hx r (.inl rfl)),h2.same (fun k e=>hx k ?_),⟨h3.at'.same hs (fun k e=>hx k (.inr (.inr (.inr (.inr e))))),h3.all,h3.ll,h3.nl,h3.rl,h3.ql⟩,h4,fun k e=>⟨(h5 k e).1,Nat.lt_of_lt_of_le (h5 k e).2 hs⟩⟩
  rcases e with e | e | e
  · exact .inr (.inl e)
  · exact .inr (.inr (.inl e))
  · exact .inr (.inr (.inr (.inl e)))
theorem PairAt.mono {w:World} {F G:Nat→Prop} {r q:Nat} (h:PairAt w F r q) (hk:∀ k,F k→k < w.heap.size→G k):PairAt w G r q:=by
  obtain ⟨T,Q,I,m,v,V,L,B,Fr,J,h1,h2,h3,h4,h5⟩:=h
  exact ⟨T,Q,I,m,v,V,L,B,Fr,J,h1,h2,h3,h4,fun k e=>⟨hk k (h5 k e).1 (h5 k e).2,(h5 k e).2⟩⟩
theorem PairAt.use {w:World} {F:Nat→Prop} {r q:Nat} (h:PairAt w F r q):∃ T Q,RuP w r T Q∧(∃ L B Fr J,Rf.RIn w q T Q L B Fr J)∧Fit T Q:=by
  obtain ⟨T,Q,I,m,v,V,L,B,Fr,J,h1,h2,h3,h4,h5⟩:=h
  exact ⟨T,Q,⟨⟨I,m,v,V,h1,h2,fun k e=>(h5 k (.inr (.inr (.inr (.inl e))))).2⟩,h4.wf,h4.lt,h4.few,h4.sz⟩,⟨L,B,Fr,J,h3⟩,h4⟩
theorem prul_foot {w:World} {r:Nat} {T:List PNode} {Q:List Nat} (h:PRul w r T Q):∃ I m v V,RuB w r T Q m∧MaAt w I m v (machN T Q Q.length).1 V (machN T Q Q.length).2∧∀ k,(k=r ∨ k=m ∨ v.ownBlock=some k ∨ I k)→IsR w k∧k < w.heap.size:=by
  obtain ⟨I,m,v,V,h1,h2,h3⟩:=h.ex
  generalize (machN T Q Q.length).1=P at h2 ⊢
  refine ⟨fun j=>∃ (k:Nat) (p:Pl) (u:Value),P[k]?=some p∧V[k]?=some u∧u.ownBlock=some j,m,v,V,h1,⟨h2.blk,h2.len,h2.row,fun k p u g1 g2=>?_,h2.nb,?_,?_⟩,?_⟩
  · obtain ⟨rs,e1,e2,e3⟩:=h2.sets k p u g1 g2
    exact ⟨rs,e1,e2,fun j hj=>⟨k,p,u,g1,g2,hj⟩⟩
  · rintro ⟨k,p,u,g1,g2,g3⟩
    obtain ⟨rs,e1,e2,e3⟩:=h2.sets k p u g1 g2
    exact h2.ib (e3 _ g3)
  · rintro j hj ⟨k,p,u,g1,g2,g3⟩
    obtain ⟨rs,e1,e2,e3⟩:=h2.sets k p u g1 g2
    exact h2.iv j hj (e3 _ g3)
  · rintro k (rfl | rfl | e | ⟨j,p,u,g1,g2,g3⟩)
    · obtain ⟨sB,_,_,hB⟩:=h1.ex
      exact ⟨⟨_,⟨_,hB⟩,by decide⟩,lt_of_block hB⟩
    · exact ⟨⟨_,⟨_,h2.blk⟩,by decide⟩,lt_of_block h2.blk⟩
    · exact ⟨⟨_,Ty.row h2.row e,by decide⟩,(h2.row.lt k e).2⟩
    · obtain ⟨rs,e1,e2,e3⟩:=h2.sets j p u g1 g2
      exact ⟨⟨_,Ty.row e1 g3,by decide⟩,h3 k (e3 _ g3)⟩
theorem Both.pair {w:World} {r q:Nat} {T:List PNode} {Q:List Nat} (h:Both w r q T Q) {N:Nat} (hN:N≤q):PairAt w (fun k=>IsR w k ∨ N≤k) r q:=by
  obtain ⟨I,m,v,V,h1,h2,h3⟩:=prul_foot h.pr
  obtain ⟨L,B,Fr,J,h4,h5⟩:=h.rlow
  refine ⟨T,Q,I,m,v,V,L,B,Fr,J,h1,h2,h4,⟨h.wf,h.lt,h.few,h.sz,h.fe,h.tl⟩,fun k e=>?_⟩
  rcases e with e | e | e | e | e
  · exact (h3 k (.inl e)).imp .inl id
  · exact (h3 k (.inr (.inl e))).imp .inl id
  · exact (h3 k (.inr (.inr (.inl e)))).imp .inl id
  · exact (h3 k (.inr (.inr (.inr e)))).imp .inl id
  · exact ⟨.inr (by have:=h5 k e;omega),h4.at'.lt k e⟩
theorem PairAt.packs {w:World} {F:Nat→Prop} {r q:Nat} (h:PairAt w F r q):∃ T Q,RuP w r T Q∧Fit T Q∧∀ w' r',Below w.heap.size w w'→RuP w' r' T Q→PairAt w' (fun k=>IsR w' k ∨ F k) r' q:=by
  obtain ⟨T,Q,I,m,v,V,L,B,Fr,J,h1,h2,h3,h4,h5⟩:=h
  refine ⟨T,Q,⟨⟨I,m,v,V,h1,h2,fun k e=>(h5 k (.inr (.inr (.inr (.inl e))))).2⟩,h4.wf,h4.lt,h4.few,h4.sz⟩,h4,fun w' r' hb hr=>?_⟩
  obtain ⟨I',m',v',V',g1,g2,g3⟩:=prul_foot hr.pr
  refine ⟨T,Q,I',m',v',V',L,B,Fr,J,g1,g2,h3.below hb,h4,fun k e=>?_⟩
  rcases e with e | e | e | e | e
  · exact (g3 k (.inl e)).imp .inl id
  · exact (g3 k (.inr (.inl e))).imp .inl id
  · exact (g3 k (.inr (.inr (.inl e)))).imp .inl id
  · exact (g3 k (.inr (.inr (.inr e)))).imp .inl id
  · have:=h5 k (.inr (.inr (.inr (.inr e))))
    exact ⟨.inr this.1,Nat.lt_of_lt_of_le this.2 hb.size⟩
def prs:List (Nat × Nat)→List Value
  | []=>[]
  | p :: l=>pv p.1 :: pv p.2 :: prs l
theorem prs_snoc:∀ (l:List (Nat × Nat)) (p:Nat × Nat),prs (l ++ [p])=prs l ++ [pv p.1,pv p.2]
  | [],p=>rfl
  | a :: l,p=>by simp [prs,prs_snoc l p]
theorem prs_get:∀ (l:List (Nat × Nat)) (i:Nat) (p:Nat × Nat),l[i]?=some p→(prs l)[i * 2]?=some (pv p.1)∧(prs l)[i * 2 + 1]?=some (pv p.2)
  | [],i,p,h=>by simp at h
  | a :: l,0,p,h=>by
    simp only [List.getElem?_cons_zero,Option.some.injEq] at h
    subst h
    exact ⟨rfl,rfl⟩
  | a :: l,i + 1,p,h=>by
    rw [List.getElem?_cons_succ] at h
    have:=prs_get l i p h
    rw [show (i + 1) * 2=i * 2 + 1 + 1 by omega]
    exact this
def SeenAt (w:World) (col:Nat→Nat) (i c d:Nat):Prop:=
  ∃ v u B a,Two w c d v u B a∧Bn B∧col c=6 + 2 * i∧col d=7 + 2 * i∧(∀ k,v.ownBlock=some k→col k=1)∧∀ k,u.ownBlock=some k→col k=1
theorem two_same {w w':World} {c d:Nat} {v u:Value} {B:List Nat} {a:Nat} (h:Two w c d v u B a) (hk:∀ k,k=c ∨ k=d ∨ v.ownBlock=some k ∨ u.ownBlock=some k→w'.heap[k]?=w.heap[k]?):Two w' c d v u B a:=
  ⟨h.p.same (fun k e=>hk k (by rcases e with e | e;exact .inl e;exact .inr (.inr (.inl e)))),h.r.same (fun k e=>hk k (by rcases e with e | e;exact .inr (.inl e);exact .inr (.inr (.inr e)))),h.cd,h.vd,h.uc⟩
theorem two_lt {w:World} {c d:Nat} {v u:Value} {B:List Nat} {a:Nat} (h:Two w c d v u B a):∀ k,k=c ∨ k=d ∨ v.ownBlock=some k ∨ u.ownBlock=some k→k < w.heap.size:=by
  rintro k (e | e | e | e)
  · exact h.p.lt k (.inl e)
  · exact h.r.lt k (.inl e)
  · exact h.p.lt k (.inr e)
  · exact h.r.lt k (.inr e)
structure Ws (w:World) (b x c:Nat) (col:Nat→Nat) (vr vc:Value) (Ps Cs:List (Nat × Nat)):Prop where
  blk:w.heap[b]?=some (.cells #[pv x,vr,vc] 100 (0,0))
  book:Book w x (fun k=>col k=2) c
  cb:col b=3
  oR:w.ownsRow 0 136 2 vr Ps.length (prs Ps)
  oC:w.ownsRow 0 138 2 vc Cs.length (prs Cs)
  cR:∀ k,vr.ownBlock=some k→col k=4
  cC:∀ k,vc.ownBlock=some k→col k=5
  pairs:∀ p ∈ Ps,PairAt w (fun k=>col k=1) p.1 p.2
  curs:∀ (i:Nat) (p:Nat × Nat),Cs[i]?=some p→SeenAt w col i p.1 p.2
  lt:∀ k,col k ≠ 0→k < w.heap.size
  ty:∀ k,2≤col k→NotR w k
section
variable {w w':World} {b x c:Nat} {col:Nat→Nat} {vr vc:Value} {Ps Cs:List (Nat × Nat)}
theorem Ws.turn (h:Ws w b x c col vr vc Ps Cs) {col':Nat→Nat} {c':Nat} (hs:w.heap.size≤w'.heap.size) (hk:∀ k,k < w.heap.size→col k ≠ 0→col k ≠ 2→w'.heap[k]?=w.heap[k]?∧col' k=col k) (hB:Book w' x (fun k=>col' k=2) c')
    (hl:∀ k,col' k ≠ 0→k < w'.heap.size) (ht:∀ k,2≤col' k→NotR w' k):Ws w' b x c' col' vr vc Ps Cs:=by
  have key:∀ k n,col k=n→n ≠ 0→n ≠ 2→w'.heap[k]?=w.heap[k]?∧col' k=n:=fun k n e h0 h2=>by
    subst e
    exact hk k (h.lt k h0) h0 h2
  refine ⟨(key b 3 h.cb (by omega) (by omega)).1.trans h.blk,hB,(key b 3 h.cb (by omega) (by omega)).2,own_same h.oR (fun k e=>(key k 4 (h.cR k e) (by omega) (by omega)).1),own_same h.oC (fun k e=>(key k 5 (h.cC k e) (by omega) (by omega)).1),
    fun k e=>(key k 4 (h.cR k e) (by omega) (by omega)).2,fun k e=>(key k 5 (h.cC k e) (by omega) (by omega)).2,fun p hp=>?_,fun i p hp=>?_,hl,ht⟩
  · exact ((h.pairs p hp).same hs (fun k e _=>(key k 1 e (by omega) (by omega)).1)).mono (fun k e _=>(key k 1 e (by omega) (by omega)).2)
  · obtain ⟨v,u,B,a,h1,h2,h3,h4,h5,h6⟩:=h.curs i p hp
    refine ⟨v,u,B,a,two_same h1 (fun k e=>?_),h2,(key _ _ h3 (by omega) (by omega)).2,(key _ _ h4 (by omega) (by omega)).2,fun k e=>(key k 1 (h5 k e) (by omega) (by omega)).2,fun k e=>(key k 1 (h6 k e) (by omega) (by omega)).2⟩
    rcases e with rfl | rfl | e | e
    · exact (key _ _ h3 (by omega) (by omega)).1
    · exact (key _ _ h4 (by omega) (by omega)).1
    · exact (key _ 1 (h5 k e) (by omega) (by omega)).1
    · exact (key _ 1 (h6 k e) (by omega) (by omega)).1
theorem Ws.below (h:Ws w b x c col vr vc Ps Cs) (hb:Below w.heap.size w w'):Ws w' b x c col vr vc Ps Cs:=
  h.turn hb.size (fun k hk _ _=>⟨hb.block k hk,rfl⟩) (h.book.below hb) (fun k e=>Nat.lt_of_lt_of_le (h.lt k e) hb.size) (fun k e=>(h.ty k e).same (hb.block k (h.lt k (by omega))))
structure Fr (col:Nat→Nat) (w:World) (col':Nat→Nat) (w':World):Prop where
  kept:Kept (fun k=>col k < 2) w w'
  low:∀ k,k < w.heap.size→col k < 2→col' k < 2
theorem Fr.trans {w'':World} {col' col'':Nat→Nat} (h:Fr col w col' w') (g:Fr col' w' col'' w''):Fr col w col'' w'':=
  ⟨⟨g.kept.os.trans h.kept.os,g.kept.tape.trans h.kept.tape,g.kept.output.trans h.kept.output,Nat.le_trans h.kept.size g.kept.size,fun k hk e=>(g.kept.block k (Nat.lt_of_lt_of_le hk h.kept.size) (h.low k hk e)).trans (h.kept.block k hk e)⟩,fun k hk e=>g.low k (Nat.lt_of_lt_of_le hk h.kept.size) (h.low k hk e)⟩
theorem Fr.of_below (hb:Below w.heap.size w w'):Fr col w col w':=⟨Kept.of_below hb,fun _ _ h=>h⟩
theorem Fr.below {col':Nat→Nat} {N:Nat} (h:Fr col w col' w') (hN:N≤w.heap.size) (hl:∀ k,k < N→col k < 2):Below N w w':=h.kept.below hN hl
open Classical in
noncomputable def recol (S:Nat→Prop) (col:Nat→Nat) (k:Nat):Nat:=if S k then 2 else if col k=2 then 0 else col k
theorem Ws.kept (h:Ws w b x c col vr vc Ps Cs) {c':Nat} (hK:Kept (fun k=>¬ col k=2) w w') (hB:Book w' x (fun k=>col k=2 ∨ w.heap.size≤k) c'):∃ col',Ws w' b x c' col' vr vc Ps Cs∧Fr col w col' w':=by
  obtain ⟨S,h1,h2,h3,h4⟩:=tight hB
  have no:∀ k,k < w.heap.size→col k ≠ 2→¬ S k:=fun k hk hc hS=>by
    rcases h2 k hS with e | e
    · exact hc e
    · omega
  have eq:∀ k,k < w.heap.size→col k ≠ 2→recol S col k=col k:=fun k hk hc=>by
    unfold recol
    rw [if_neg (no k hk hc),if_neg hc]
  refine ⟨recol S col,h.turn hK.size (fun k hk _ hc=>⟨hK.block k hk hc,eq k hk hc⟩) ?_ (fun k e=>?_) (fun k e=>?_),⟨hK.mono (fun k _ (e:col k < 2)=>by omega),fun k hk e=>by rw [eq k hk (by omega)];exact e⟩⟩
  · refine h1.mono (fun k _ e=>?_)
    unfold recol
    rw [if_pos e]
  · by_cases e2:S k
    · exact (h4 k e2).lt
    · unfold recol at e
      rw [if_neg e2] at e
      by_cases e3:col k=2
      · rw [if_pos e3] at e;exact absurd rfl e
      · rw [if_neg e3] at e
        exact Nat.lt_of_lt_of_le (h.lt k e) hK.size
  · by_cases e2:S k
    · exact h4 k e2
    · unfold recol at e
      rw [if_neg e2] at e
      by_cases e3:col k=2
      · rw [if_pos e3] at e;omega
      · rw [if_neg e3] at e
        exact (h.ty k e).same (hK.block k (h.lt k (by omega)) e3)
open Classical in
noncomputable def froze (w:World) (N:Nat) (col:Nat→Nat) (k:Nat):Nat:=if k < w.heap.size∧(IsR w k ∨ N≤k) then 1 else col k
theorem froze_eq (h:Ws w b x c col vr vc Ps Cs) {N:Nat} (hN:∀ k,col k ≠ 0→k < N) {k:Nat} (hk:col k ≠ 0):froze w N col k=col k:=by
  unfold froze
  split
  · rename_i e
    rcases e.2 with e2 | e2
    · rcases Nat.lt_or_ge (col k) 2 with e3 | e3
      · omega
      · exact absurd e2 (fun g=>(h.ty k e3).no g)
    · have:=hN k hk;omega
  · rfl
theorem froze_low {N:Nat} {k:Nat} (hk:col k=0):froze w N col k < 2:=by
  unfold froze
  split <;> omega
theorem Ws.freeze (h:Ws w b x c col vr vc Ps Cs) {N:Nat} (hN:∀ k,col k ≠ 0→k < N):Ws w b x c (froze w N col) vr vc Ps Cs∧Fr col w (froze w N col) w:=by
  have low:∀ k,2≤froze w N col k→froze w N col k=col k:=fun k e=>by
    by_cases hk:col k=0
    · have:=froze_low (w:=w) (N:=N) hk;omega
    · exact froze_eq h hN hk
  refine ⟨h.turn (Nat.le_refl _) (fun k _ hk _=>⟨rfl,froze_eq h hN hk⟩) (h.book.mono (fun k _ e=>by rw [froze_eq h hN (by omega)];exact e)) (fun k e=>?_) (fun k e=>h.ty k (by rw [← low k e];exact e)),⟨Kept.refl _ _,fun k _ e=>?_⟩⟩
  · unfold froze at e
    split at e
    · rename_i e2;exact e2.1
    · exact h.lt k e
  · by_cases hk:col k=0
    · exact froze_low hk
    · rw [froze_eq h hN hk];exact e
theorem PairAt.froze {N r q:Nat} (h:PairAt w (fun k=>IsR w k ∨ N≤k) r q):PairAt w (fun k=>froze w N col k=1) r q:=
  h.mono (fun k e hk=>by unfold Pr.froze;rw [if_pos ⟨hk,e⟩])
theorem PairAt.froze' (hW:Ws w b x c col vr vc Ps Cs) {N r q:Nat} (hN:∀ k,col k ≠ 0→k < N) (h:PairAt w (fun k=>IsR w k ∨ col k=1) r q):PairAt w (fun k=>Pr.froze w N col k=1) r q:=
  h.mono (fun k e hk=>by
    rcases e with e | e
    · unfold Pr.froze;rw [if_pos ⟨hk,.inl e⟩]
    · rw [froze_eq hW hN (by omega)];exact e)
structure Gw (w:World) (b:Nat) (col:Nat→Nat) (w':World) (col':Nat→Nat) (n0 g:Nat):Prop where
  key:∀ k n,col k=n→n ≠ 0→n ≠ 3→n ≠ n0→w'.heap[k]?=w.heap[k]?∧col' k=n
  cb:col' b=3
  cg:col' g=n0
  lt:∀ k,col' k ≠ 0→k < w'.heap.size
  ty:∀ k,2≤col' k→NotR w' k
  fr:Fr col w col' w'
theorem Ws.gw (h:Ws w b x c col vr vc Ps Cs) {X w2:World} {n0 o g cap n e:Nat} {row:Value} {xs:List Value} (hn0:4≤n0) (hrow:∀ k,row.ownBlock=some k→col k=n0) (hX:Kept (fun _=>True) w X) (hg:X.grownBy w2 row.ownBlock)
    (hown:w2.ownsRow 0 e 2 (.slice (some ⟨g,0,none⟩) n cap) n xs) (hat:row.ownBlock=some g ∨ w.heap.size≤g) (hlt:g < w2.heap.size) (he:rulT e=false) :
    w2.heap[b]?=w.heap[b]?∧(w2.setCell ⟨b,o,none⟩ (.slice (some ⟨g,0,none⟩) n cap)).ownsRow 0 e 2 (.slice (some ⟨g,0,none⟩) n cap) n xs∧∃ col',Gw w b col (w2.setCell ⟨b,o,none⟩ (.slice (some ⟨g,0,none⟩) n cap)) col' n0 g:=by
  have hsz:w.heap.size≤w2.heap.size:=Nat.le_trans hX.size hg.size
  have h2:∀ k,k < w.heap.size→col k ≠ n0→w2.heap[k]?=w.heap[k]?:=fun k hk hc=>(hg.block k (Nat.lt_of_lt_of_le hk hX.size) (fun e=>hc (hrow k e.symm))).trans (hX.block k hk trivial)
  have hbl:=h.lt b (by rw [h.cb];omega)
  have hb2:=h2 b hbl (by rw [h.cb];omega)
  have hgb:g ≠ b:=fun e=>by
    rcases hat with e2 | e2
    · have:=hrow g e2;rw [e,h.cb] at this;omega
    · omega
  have hown':=own_same (w':=w2.setCell ⟨b,o,none⟩ (.slice (some ⟨g,0,none⟩) n cap)) hown (fun k e=>Below.heap_setCell _ _ _ _ (fun e2=>by
    simp only [Value.ownBlock,Option.some.injEq] at e
    exact hgb (e.trans e2)))
  have hs3:(w2.setCell ⟨b,o,none⟩ (.slice (some ⟨g,0,none⟩) n cap)).heap.size=w2.heap.size:=by simp [World.setCell]
  have hbt:Ty (w2.setCell ⟨b,o,none⟩ (.slice (some ⟨g,0,none⟩) n cap)) b 100:=⟨_,Rf.blk_set (hb2.trans h.blk) _ _⟩
  have hset:∀ k,k ≠ b→(w2.setCell ⟨b,o,none⟩ (.slice (some ⟨g,0,none⟩) n cap)).heap[k]?=w2.heap[k]?:=fun k hk=>Below.heap_setCell _ _ _ _ hk
  have hos:(w2.setCell ⟨b,o,none⟩ (.slice (some ⟨g,0,none⟩) n cap)).os=w.os∧(w2.setCell ⟨b,o,none⟩ (.slice (some ⟨g,0,none⟩) n cap)).tape=w.tape∧(w2.setCell ⟨b,o,none⟩ (.slice (some ⟨g,0,none⟩) n cap)).output=w.output:=⟨hg.os.trans hX.os,hg.tape.trans hX.tape,hg.output.trans hX.output⟩
  generalize w2.setCell ⟨b,o,none⟩ (.slice (some ⟨g,0,none⟩) n cap)=W at *
  have h3:∀ k,k < w.heap.size→col k ≠ n0→k ≠ b→W.heap[k]?=w.heap[k]?:=fun k hk hc hkb=>(hset k hkb).trans (h2 k hk hc)
  have hne:∀ k,col k ≠ 3→k ≠ b:=fun k hc e=>hc (e ▸ h.cb)
  have hg4:∀ k,col k ≠ 0→col k ≠ n0→k ≠ g:=fun k h0 h4 e=>by
    rcases hat with e2 | e2
    · exact h4 (e ▸ hrow g e2)
    · have:=h.lt k h0;omega
  obtain ⟨col',hc'⟩:∃ col':Nat→Nat,col'=fun k=>if k=g then n0 else if col k=n0 then 0 else col k:=⟨_,rfl⟩
  have cg:col' g=n0:=by rw [hc'];exact if_pos rfl
  have ce:∀ k,k ≠ g→col k ≠ n0→col' k=col k:=fun k h0 h4=>by
    rw [hc']
    show (if k=g then n0 else if col k=n0 then 0 else col k)=col k
    rw [if_neg h0,if_neg h4]
  have co:∀ k,k ≠ g→col k=n0→col' k=0:=fun k h0 h4=>by
    rw [hc']
    show (if k=g then n0 else if col k=n0 then 0 else col k)=0
    rw [if_neg h0,if_pos h4]
  refine ⟨hb2,hown',col',⟨fun k m e h0 m3 m4=>?_,?_,cg,fun k e=>?_,fun k e=>?_,⟨⟨hos.1,hos.2.1,hos.2.2,by omega,fun k hk e=>h3 k hk (by have e:col k < 2:=e;omega) (hne k (by have e:col k < 2:=e;omega))⟩,fun k hk e=>?_⟩⟩⟩
  · subst e
    exact ⟨h3 k (h.lt k h0) m4 (hne k m3),ce k (hg4 k h0 m4) m4⟩
  · rw [ce b (Ne.symm hgb) (by rw [h.cb];omega)];exact h.cb
  · by_cases e2:k=g
    · omega
    · by_cases e3:col k=n0
      · exact absurd (co k e2 e3) e
      · rw [ce k e2 e3] at e;have:=h.lt k e;omega
  · by_cases e2:k=g
    · subst e2
      exact ⟨_,Ty.row hown' rfl,he⟩
    · by_cases e3:col k=n0
      · rw [co k e2 e3] at e;omega
      · rw [ce k e2 e3] at e
        by_cases e5:k=b
        · subst e5;exact ⟨100,hbt,by decide⟩
        · exact (h.ty k e).same (h3 k (h.lt k (by omega)) e3 e5)
  · by_cases e2:k=g
    · exfalso
      rcases hat with e3 | e3
      · have:=hrow g e3;rw [e2] at e;omega
      · omega
    · rw [ce k e2 (by omega)]
      exact e
theorem Gw.pair {col':Nat→Nat} {n0 g r q:Nat} (k0:Gw w b col w' col' n0 g) (hn:4≤n0) (h:PairAt w (fun k=>col k=1) r q):PairAt w' (fun k=>col' k=1) r q:=
  (h.same k0.fr.kept.size (fun k e _=>(k0.key k 1 e (by omega) (by omega) (by omega)).1)).mono (fun k e _=>(k0.key k 1 e (by omega) (by omega) (by omega)).2)
theorem Gw.seen {col':Nat→Nat} {n0 g i p q:Nat} (k0:Gw w b col w' col' n0 g) (hn:4≤n0) (hn5:n0≤5) (h:SeenAt w col i p q):SeenAt w' col' i p q:=by
  obtain ⟨v,u,B,a,g1,g2,g3,g4,g5,g6⟩:=h
  have key:=fun k n e h0 h3 h4=>k0.key k n e h0 h3 h4
  refine ⟨v,u,B,a,two_same g1 (fun k e=>?_),g2,(key _ _ g3 (by omega) (by omega) (by omega)).2,(key _ _ g4 (by omega) (by omega) (by omega)).2,fun k e=>(key k 1 (g5 k e) (by omega) (by omega) (by omega)).2,fun k e=>(key k 1 (g6 k e) (by omega) (by omega) (by omega)).2⟩
  rcases e with rfl | rfl | e | e
  · exact (key _ _ g3 (by omega) (by omega) (by omega)).1
  · exact (key _ _ g4 (by omega) (by omega) (by omega)).1
  · exact (key _ 1 (g5 k e) (by omega) (by omega) (by omega)).1
  · exact (key _ 1 (g6 k e) (by omega) (by omega) (by omega)).1
theorem Gw.book {col':Nat→Nat} {n0 g:Nat} (k0:Gw w b col w' col' n0 g) (hn:4≤n0) (h:Book w x (fun k=>col k=2) c):Book w' x (fun k=>col' k=2) c:=
  (h.same k0.fr.kept.size (fun k _ e=>(k0.key k 2 e (by omega) (by omega) (by omega)).1)).mono (fun k _ e=>(k0.key k 2 e (by omega) (by omega) (by omega)).2)
theorem Ws.addP (h:Ws w b x c col vr vc Ps Cs) {X w2:World} {g cap r q:Nat} (hp:PairAt w (fun k=>col k=1) r q) (hX:Kept (fun _=>True) w X) (hg:X.grownBy w2 vr.ownBlock) (hown:w2.ownsRow 0 136 2 (.slice (some ⟨g,0,none⟩) (Ps.length + 1) cap) (Ps.length + 1) (prs Ps ++ [pv r,pv q]))
    (hat:vr.ownBlock=some g ∨ w.heap.size≤g) (hlt:g < w2.heap.size) :
    ∃ col',Ws (w2.setCell ⟨b,1,none⟩ (.slice (some ⟨g,0,none⟩) (Ps.length + 1) cap)) b x c col' (.slice (some ⟨g,0,none⟩) (Ps.length + 1) cap) vc (Ps ++ [(r,q)]) Cs∧Fr col w col' (w2.setCell ⟨b,1,none⟩ (.slice (some ⟨g,0,none⟩) (Ps.length + 1) cap)):=by
  obtain ⟨hb2,ho,col',k0⟩:=h.gw (o:=1) (n0:=4) (by omega) h.cR hX hg hown hat hlt (by decide)
  refine ⟨col',⟨?_,k0.book (by omega) h.book,k0.cb,by rw [prs_snoc,List.length_append];exact ho,own_same h.oC (fun k e=>(k0.key k 5 (h.cC k e) (by omega) (by omega) (by omega)).1),fun k e=>?_,fun k e=>(k0.key k 5 (h.cC k e) (by omega) (by omega) (by omega)).2,fun p hp'=>?_,fun i p hp'=>k0.seen (by omega) (by omega) (h.curs i p hp'),k0.lt,k0.ty⟩,k0.fr⟩
  · rw [Rf.blk_set (hb2.trans h.blk)]
    rfl
  · simp only [Value.ownBlock,Option.some.injEq] at e
    subst e
    exact k0.cg
  · rcases List.mem_append.1 hp' with hp' | hp'
    · exact k0.pair (by omega) (h.pairs p hp')
    · simp only [List.mem_singleton] at hp'
      subst hp'
      exact k0.pair (by omega) hp
theorem Ws.addC (h:Ws w b x c col vr vc Ps Cs) {X w2:World} {g cap r q:Nat} (hp:SeenAt w col Cs.length r q) (hX:Kept (fun _=>True) w X) (hg:X.grownBy w2 vc.ownBlock) (hown:w2.ownsRow 0 138 2 (.slice (some ⟨g,0,none⟩) (Cs.length + 1) cap) (Cs.length + 1) (prs Cs ++ [pv r,pv q]))
    (hat:vc.ownBlock=some g ∨ w.heap.size≤g) (hlt:g < w2.heap.size) :
    ∃ col',Ws (w2.setCell ⟨b,2,none⟩ (.slice (some ⟨g,0,none⟩) (Cs.length + 1) cap)) b x c col' vr (.slice (some ⟨g,0,none⟩) (Cs.length + 1) cap) Ps (Cs ++ [(r,q)])∧Fr col w col' (w2.setCell ⟨b,2,none⟩ (.slice (some ⟨g,0,none⟩) (Cs.length + 1) cap)):=by
  obtain ⟨hb2,ho,col',k0⟩:=h.gw (o:=2) (n0:=5) (by omega) h.cC hX hg hown hat hlt (by decide)
  refine ⟨col',⟨?_,k0.book (by omega) h.book,k0.cb,own_same h.oR (fun k e=>(k0.key k 4 (h.cR k e) (by omega) (by omega) (by omega)).1),by rw [prs_snoc,List.length_append];exact ho,fun k e=>(k0.key k 4 (h.cR k e) (by omega) (by omega) (by omega)).2,fun k e=>?_,fun p hp'=>k0.pair (by omega) (h.pairs p hp'),fun i p hp'=>?_,k0.lt,k0.ty⟩,k0.fr⟩
  · rw [Rf.blk_set (hb2.trans h.blk)]
    rfl
  · simp only [Value.ownBlock,Option.some.injEq] at e
    subst e
    exact k0.cg
  · rcases Nat.lt_or_ge i Cs.length with hi | hi
    · rw [List.getElem?_append_left hi] at hp'
      exact k0.seen (by omega) (by omega) (h.curs i p hp')
    · rw [List.getElem?_append_right hi] at hp'
      have h0:i - Cs.length=0:=by have:=(List.getElem?_eq_some_iff.1 hp').1;simp at this;omega
      rw [h0,List.getElem?_cons_zero,Option.some.injEq] at hp'
      subst hp'
      obtain rfl:i=Cs.length:=by omega
      exact k0.seen (by omega) (by omega) hp
theorem Ws.pend (h:Ws w b x c col vr vc Ps Cs) {w0:World} {N i r q:Nat} {v u:Value} {B:List Nat} {a:Nat} (hb:Below w0.heap.size w0 w) (h0:w0.heap.size=N) (hN:∀ k,col k ≠ 0→k < N) (h2:Two w r q v u B a) (hB:Bn B) (hr:N≤r) (hq:N≤q) (hv:∀ k,v.ownBlock=some k→N≤k) (hu:∀ k,u.ownBlock=some k→N≤k) :
    ∃ col',Ws w b x c col' vr vc Ps Cs∧SeenAt w col' i r q∧Fr col w0 col' w:=by
  have no:∀ k,N≤k→col k=0:=fun k hk=>by
    by_cases e:col k=0
    · exact e
    · have:=hN k e;omega
  obtain ⟨col',hc'⟩:∃ col':Nat→Nat,col'=fun k=>if k=r then 6 + 2 * i else if k=q then 7 + 2 * i else if v.ownBlock=some k ∨ u.ownBlock=some k then 1 else col k:=⟨_,rfl⟩
  have hlt:=two_lt h2
  have cr:col' r=6 + 2 * i:=by rw [hc'];exact if_pos rfl
  have cq:col' q=7 + 2 * i:=by
    rw [hc']
    show (if q=r then 6 + 2 * i else if q=q then 7 + 2 * i else _)=_
    rw [if_neg (Ne.symm h2.cd),if_pos rfl]
  have cv:∀ k,v.ownBlock=some k ∨ u.ownBlock=some k→col' k=1:=fun k e=>by
    have n1:k ≠ r:=fun e2=>by
      subst e2
      rcases e with e | e
      · exact h2.p.ne e
      · exact h2.uc e
    have n2:k ≠ q:=fun e2=>by
      subst e2
      rcases e with e | e
      · exact h2.vd e
      · exact h2.r.ne e
    rw [hc']
    show (if k=r then 6 + 2 * i else if k=q then 7 + 2 * i else if v.ownBlock=some k ∨ u.ownBlock=some k then 1 else col k)=1
    rw [if_neg n1,if_neg n2,if_pos e]
  have ce:∀ k,k < N→col' k=col k:=fun k hk=>by
    rw [hc']
    show (if k=r then 6 + 2 * i else if k=q then 7 + 2 * i else if v.ownBlock=some k ∨ u.ownBlock=some k then 1 else col k)=col k
    rw [if_neg (by omega),if_neg (by omega),if_neg (fun e=>by rcases e with e | e;(have:=hv k e;omega);(have:=hu k e;omega))]
  have cx:∀ k,¬ k < N→k ≠ r→k ≠ q→col' k < 2:=fun k hk n1 n2=>by
    rw [hc']
    show (if k=r then 6 + 2 * i else if k=q then 7 + 2 * i else if v.ownBlock=some k ∨ u.ownBlock=some k then 1 else col k) < 2
    rw [if_neg n1,if_neg n2]
    split
    · omega
    · rw [no k (by omega)];omega
  have cl:∀ k,col' k ≠ 0→k < w.heap.size:=fun k e=>by
    by_cases hk:k < N
    · rw [ce k hk] at e;exact h.lt k e
    · by_cases n1:k=r
      · exact hlt k (.inl n1)
      · by_cases n2:k=q
        · exact hlt k (.inr (.inl n2))
        · by_cases n3:v.ownBlock=some k ∨ u.ownBlock=some k
          · exact hlt k (.inr (.inr n3))
          · exfalso
            apply e
            rw [hc']
            show (if k=r then 6 + 2 * i else if k=q then 7 + 2 * i else if v.ownBlock=some k ∨ u.ownBlock=some k then 1 else col k)=0
            rw [if_neg n1,if_neg n2,if_neg n3]
            exact no k (by omega)
  refine ⟨col',h.turn (Nat.le_refl _) (fun k _ hk _=>⟨rfl,ce k (hN k hk)⟩) (h.book.mono (fun k _ e=>by rw [ce k (hN k (by omega))];exact e)) cl (fun k e=>?_),⟨v,u,B,a,h2,hB,cr,cq,fun k e=>cv k (.inl e),fun k e=>cv k (.inr e)⟩,⟨Kept.of_below hb,fun k hk e=>by rw [ce k (by omega)];exact e⟩⟩
  · by_cases hk:k < N
    · rw [ce k hk] at e;exact h.ty k e
    · by_cases n1:k=r
      · subst n1;exact ⟨_,⟨_,h2.p.blk⟩,by decide⟩
      · by_cases n2:k=q
        · subst n2;exact ⟨_,⟨_,h2.r.blk⟩,by decide⟩
        · have:=cx k hk n1 n2;omega
end
end Pr
end Go.Proofs.YtpgcidpghmoibaaGreatDoor

namespace Go.Proofs.YtpgcidpghmoibaaGreatDoor
namespace Pr
open Go.RowKit
open G (PNode)
open Cs
def StepPost (w:World) (b x c:Nat) (col:Nat→Nat) (Ps Cs:List (Nat × Nat)) (e:Ending) (w':World):Prop:=
  e=.returned (.bool true)∧∃ c' col' vr' vc' Ps' Cs',Ws w' b x c' col' vr' vc' Ps' Cs'∧Fr col w col' w'∧c'≤c + 4∧Ps'.length≤Ps.length + 1∧Cs'.length≤Cs.length + 1
theorem infoSeen:(Tryz.prog.info? 138).map (fun i=>(i.zero,i.size,i.bytes))=some (some (.agg #[.pointer none,.pointer none]),2,16):=by kernel_rfl
theorem infoPair:(Tryz.prog.info? 136).map (fun i=>(i.zero,i.size,i.bytes))=some (some (.agg #[.pointer none,.pointer none]),2,16):=by kernel_rfl
set_option maxRecDepth 100000 in
set_option maxHeartbeats 4000000 in
theorem wover_any (w:World) (b x c:Nat) (col:Nat→Nat) (vr vc:Value) (Ps Cs:List (Nat × Nat)) (h:Ws w b x c col vr vc Ps Cs) (r q:Nat) (hp:PairAt w (fun k=>col k=1) r q) (t:ByteArray) (ht:t.size≤maxLen) (hC:Cs.length≤100000000) :
    Calls Tryz.prog 97 #[pv b,.agg #[pv r,pv q],.string t] w fun e w'=>StepPost w b x c col Ps Cs e w':=by
  obtain ⟨i0,hi,hz0,hz1,hz2⟩:=info_parts infoSeen
  have hb0:Below w.heap.size w (w.alloc (.cells #[pv r,pv q] 136)):=(Below.refl _ _).alloc (Nat.le_refl _) _
  have h0:=h.below hb0
  have hp0:=hp.same hb0.size (fun k _ hk=>hb0.block k hk)
  have hbl:=heap_alloc_new w (.cells #[pv r,pv q] 136)
  have HF0:Hid (Fr col w col (w.alloc (.cells #[pv r,pv q] 136))):=Fr.of_below hb0
  have c0:=Rf.cell_blk hbl 0 (pv r) rfl
  have c1:=Rf.cell_blk hbl 1 (pv q) rfl
  have hz0':w.heap.size < (w.alloc (.cells #[pv r,pv q] 136)).heap.size:=by simp
  by_cases hs:1000 < t.size
  · have HW:Hid _:=h0
    go_enter Tryz.func97,Tryz.ntmps97
    go_wp2_with fail
    generalize w.alloc (.cells #[pv r,pv q] 136)=w0 at *
    refine (pover_long w0 r t hs ht).mono ?_
    rintro e w1 ⟨rfl,rfl⟩
    clear h0 hp0 hbl
    go_wp2_with fail
    refine (Rf.rover_long w1 q t hs ht).mono ?_
    rintro e w2 ⟨⟨d,rfl⟩,hb2⟩
    go_wp2_with (go_at_call 35;refine (lnum_any _ _).mono ?_;rintro e w9 ⟨rfl,rfl⟩)
    go_ret
    exact ⟨rfl,c,col,vr,vc,Ps,Cs,Ws.below HW.out hb2,HF0.out.trans (Fr.of_below hb2),by omega,by omega,by omega⟩
  · have hs':t.size≤1000:=by omega
    obtain ⟨T,Q,hRu,⟨L,B,Fr',J,hr1⟩,hFit⟩:=hp0.use
    obtain ⟨m1,I1,v1,V1,P1,f1,hp1⟩:=hRu.pin
    have HW:Hid (Ws (w.alloc (.cells #[pv r,pv q] 136)) b x c col vr vc Ps Cs):=h0
    go_enter Tryz.func97,Tryz.ntmps97
    go_wp2_with fail
    generalize w.alloc (.cells #[pv r,pv q] 136)=w0 at *
    refine (pover_short w0 r m1 I1 v1 V1 T Q P1 f1 hp1 t hs').mono ?_
    rintro e w1 ⟨⟨cc,v2,l,rfl,hcut,hC7,hcl,hvl⟩,hb1⟩
    have z1:=hb1.size
    have c1':=(hb1.cell (p:=⟨w.heap.size,1,none⟩) hz0').trans c1
    go_wp2_with fail
    refine (Rf.rover_short w1 q T Q L B Fr' J (hr1.below hb1) t hs').mono ?_
    rintro e w2 ⟨⟨d,u2,l',rfl,hcut',hD8,hdl,hul⟩,hb2⟩
    obtain rfl:=hcut.one hcut'
    have z2:=hb2.size
    have hB2:=Rf.cut_bn hcut hs'
    have hTw:Two w2 cc d v2 u2 (G.bnds 0 l) 0:=⟨hC7.below hb2,hD8,by have:=hC7.lt cc (.inl rfl);omega,fun e=>by have:=hC7.lt d (.inr e);omega,fun e=>by have:=hul cc e;have:=hC7.lt cc (.inl rfl);omega⟩
    have hb02:Below w0.heap.size w0 w2:=hb1.trans (hb2.mono z1)
    obtain ⟨col2,hW2,hS2,hF2⟩:=Ws.pend (i:=Cs.length) (HW.out.below hb02) hb02 rfl HW.out.lt hTw hB2 (by omega) (by omega) (fun k e=>hvl k e) (fun k e=>by have:=hul k e;omega)
    obtain ⟨ca,cb,hvc⟩:=own_len' hW2.oC
    subst hvc
    have d2:=Rf.cell_blk hW2.blk 2 (.slice ca Cs.length cb) rfl
    have HW2:Hid (Ws w2 b x c col2 vr (.slice ca Cs.length cb) Ps Cs):=hW2
    have HS2:Hid (SeenAt w2 col2 Cs.length cc d):=hS2
    have HF2:Hid (Fr col w col2 w2):=HF0.out.trans hF2
    have oC:=hW2.oC
    have hbl2:=lt_of_block hW2.blk
    clear hcut hcut' hC7 hD8 hTw hb1 hb2 hb02 hW2 hS2 hF2 hp1 hr1 hRu hFit hp0 h0 hbl HW HF0 h hp hb0
    go_wp2_with (first
      | (go_at_call 35;refine (lnum_any _ _).mono ?_;rintro e w9 ⟨rfl,rfl⟩)
      | (at_builtin
         refine wpList_append_lies _ rfl (.tmp 42) (.tmp 46) 98 rfl 0 138 i0 (.agg #[.pointer none,.pointer none]) 2 16 Tryz.underlying98 hi hz0 hz1 hz2 rfl (by decide) _ _ _ rfl (oC.alloc _) ⟨w9.heap.size,0,none⟩ 1 1 [pv cc,pv d] rfl rfl (World.news_of_block (cs:=#[pv cc,pv d]) (t:=138) (fr:=(0,0)) (heap_alloc_new _ _)) (fun y hy=>by simp at hy;rcases hy with rfl | rfl <;> rfl) (by decide) (by unfold maxLen;omega) (by omega) (by simp) (w9.heap.size + 1) (by simp) ?_
         intro g3 cap3 w3 hn3 hg3 hat3 hlt3
         have hb3:w3.heap[b]?=_:=(hg3.block b (by simp;omega) (fun e=>by have:=HW2.out.cC b e.symm;rw [HW2.out.cb] at this;omega)).trans ((Below.heap_alloc _ _ _ hbl2).trans HW2.out.blk)
         have cb3:=Rf.cell_blk hb3 2 (.slice ca Cs.length cb) rfl
         have fb3:=Rf.free_blk hb3 2))
    obtain ⟨col3,hW3,hF3⟩:=HW2.out.addC (w2:=w3) HS2.out ((Kept.refl _ _).alloc _) hg3 hn3 (hat3.imp id (fun h=>by omega)) hlt3
    go_ret
    exact ⟨rfl,c,col3,vr,_,Ps,_,hW3,HF2.out.trans hF3,by omega,by omega,by simp⟩
end Pr
end Go.Proofs.YtpgcidpghmoibaaGreatDoor
