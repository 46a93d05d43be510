/-
  THE RULES AS STATES, without the program
  STATES THAT ARE MARKED, without the program
  THE REFERENCE's STATES
-/
import Derived.Test.YtpgcidpghmoibaaGreatDoorK19
import Derived.Test.YtpgcidpghmoibaaGreatDoorK20
namespace Go.Proofs.YtpgcidpghmoibaaGreatDoor
namespace Rf
open G (PNode Lang)
def Shp (T:List PNode) (N:Nat) (x:PState):Prop:=
  (∀ t ∈ x.next,t < N)∧x.next.length≤100000∧(x.node=-1 ∨ ∃ n y t,x.node=((n:Nat):Int)∧T[n]?=some y∧y.kind=115∧x.next=[t])
theorem Shp.mono {T:List PNode} {N N':Nat} {x:PState} (h:Shp T N x) (hn:N≤N'):Shp T N' x:=⟨fun t ht=>Nat.lt_of_lt_of_le (h.1 t ht) hn,h.2⟩
def LenR:MT→MR→Prop
  | .alt ps acc,.many l=>l.length=acc.length + ps.length
  | _,_=>True
theorem Md.shape {T:List PNode} (hT:G.WF T) (hp:∀ x ∈ T,x.parts.length≤100000) {mt:MT} {to:Nat} {L L':List PState} {r:MR} (h:Md T mt to L r L'):mt.Fit T L.length→to < L.length→(∀ i x,L.length≤i→L'[i]?=some x→Shp T L'.length x)∧LenR mt r:=by
  have snoc:∀ {L:List PState} {y:PState} {lo:Nat},(∀ i x,lo≤i→L[i]?=some x→Shp T L.length x)→Shp T (L.length + 1) y→∀ i x,lo≤i→(L ++ [y])[i]?=some x→Shp T (L ++ [y]).length x:=by
    intro L y lo h hy i x hi hx
    rw [List.length_append,List.length_singleton]
    rcases Nat.lt_trichotomy i L.length with hl | hl | hl
    · rw [List.getElem?_append_left hl] at hx
      exact (h i x hi hx).mono (Nat.le_succ _)
    · subst hl
      simp only [List.getElem?_append_right (Nat.le_refl _),Nat.sub_self,List.getElem?_cons_zero,Option.some.injEq] at hx
      subst hx
      exact hy
    · rw [List.getElem?_eq_none (by simp;omega)] at hx
      cases hx
  induction h with
  | @set n to L x hx hk =>
    intro hf ht
    refine ⟨snoc (fun i x hi hx=>?_) ⟨fun t h=>?_,by simp,.inr ⟨_,x,to,rfl,hx,hk,rfl⟩⟩,trivial⟩
    · rw [List.getElem?_eq_none hi] at hx;cases hx
    · have:t=to:=by simpa using h
      omega
  | @seq n to L x r L' hx hk hm ih =>
    intro hf ht
    have hle:=G.bare_le hT n
    have hps:∀ p ∈ x.parts.reverse,p < T.length:=fun p hp=>by
      have:=(hT _ x hx).parts p (by simpa using hp)
      have hf':n < T.length:=hf
      omega
    exact ⟨(ih hps ht).1,by cases r <;> trivial⟩
  | @seqNil to L =>
    intro _ _
    exact ⟨fun i x hi hx=>(by rw [List.getElem?_eq_none hi] at hx;cases hx),trivial⟩
  | @seqCons p ps to L t1 L1 r L2 hm1 hm2 ih1 ih2 =>
    intro hf ht
    have f1:=hm1.fine hT (hf p (by simp)) ht
    have f2:=hm2.fine hT (fun q hq=>hf q (by simp [hq])) f1.2.1
    have i1:=(ih1 (hf p (by simp)) ht).1
    have i2:=(ih2 (fun q hq=>hf q (by simp [hq])) f1.2.1).1
    refine ⟨fun i x hi hx=>?_,by cases r <;> trivial⟩
    rcases Nat.lt_or_ge i L1.length with hl | hl
    · rw [f2.2.2.2 i hl] at hx
      exact (i1 i x hi hx).mono f2.1
    · exact i2 i x hl hx
  | @alt n to L x l L' hx hk hm ih =>
    intro hf ht
    have hle:=G.bare_le hT n
    have hps:∀ p ∈ x.parts,p < T.length:=fun p hp=>by
      have:=(hT _ x hx).parts p hp
      have hf':n < T.length:=hf
      omega
    have hfit:(MT.alt x.parts []).Fit T L.length:=⟨hps,fun a ha=>by simp at ha⟩
    have f1:=hm.fine hT hfit ht
    obtain ⟨i1,i2⟩:=ih hfit ht
    have i2':l.length=[].length + x.parts.length:=i2
    have:=hp x (List.mem_of_getElem? hx)
    refine ⟨snoc i1 ⟨fun t h=>?_,by simp at i2';show l.length≤_;omega,.inl rfl⟩,trivial⟩
    have h':∀ a ∈ l,a < L'.length:=f1.2.1
    have:=h' t h
    omega
  | @altNil acc to L =>
    intro _ _
    exact ⟨fun i x hi hx=>(by rw [List.getElem?_eq_none hi] at hx;cases hx),by simp [LenR]⟩
  | @altCons p ps acc to L t1 L1 r L2 hm1 hm2 ih1 ih2 =>
    intro hf ht
    have f1:=hm1.fine hT (hf.1 p (by simp)) ht
    have hfit:(MT.alt ps (acc ++ [t1])).Fit T L1.length:=⟨fun q hq=>hf.1 q (by simp [hq]),fun a ha=>by
      rcases List.mem_append.1 ha with ha | ha
      · have:=hf.2 a ha;have:=f1.1;omega
      · have:a=t1:=by simpa using ha
        subst this
        exact f1.2.1⟩
    have f2:=hm2.fine hT hfit (by have:=f1.1;omega)
    have i1:=(ih1 (hf.1 p (by simp)) ht).1
    obtain ⟨i2,i3⟩:=ih2 hfit (by have:=f1.1;omega)
    refine ⟨fun i x hi hx=>?_,?_⟩
    · rcases Nat.lt_or_ge i L1.length with hl | hl
      · rw [f2.2.2.2 i hl] at hx
        exact (i1 i x hi hx).mono f2.1
      · exact i2 i x hl hx
    · cases r with
      | one r=>trivial
      | many l =>
        have i3':l.length=(acc ++ [t1]).length + ps.length:=i3
        show l.length=acc.length + (p :: ps).length
        simp at i3' ⊢
        omega
  | @opt n to L x q p L' hx hrs hrep hm ih =>
    intro hf ht
    have hf':n < T.length:=hf
    have hle:=G.bare_le hT n
    have hq:q < T.length:=by
      have:=(G.pl_rep hT (G.bare T n) x.kind (by omega)).2
      rw [hrep] at this
      have:q≤G.bare T n:=this
      omega
    have f1:=hm.fine hT (show q < T.length from hq) ht
    have i1:=(ih hq ht).1
    refine ⟨snoc i1 ⟨fun t h=>?_,by simp,.inl rfl⟩,trivial⟩
    have h':p < L'.length:=f1.2.1
    have:=f1.1
    have ht':t=p ∨ t=to:=by simpa using h
    omega
  | @loop n to L x k q p L' hx hrs hrep hk63 hm ih =>
    intro hf ht
    have hf':n < T.length:=hf
    have hle:=G.bare_le hT n
    have hq:q < T.length:=by
      have:=(G.pl_rep hT (G.bare T n) x.kind (by omega)).2
      rw [hrep] at this
      have:q≤G.bare T n:=this
      omega
    have f1:=hm.fine hT (show q < T.length from hq) (by simp)
    have i1:=(ih hq (by simp)).1
    have hl0:(L ++ [(⟨-1,[]⟩:PState)]).length=L.length + 1:=by simp
    rw [hl0] at i1
    have hl1:=f1.1
    rw [hl0] at hl1
    refine ⟨fun i x hi hx=>?_,trivial⟩
    rw [List.length_set]
    by_cases e:L.length=i
    · subst e
      rw [List.getElem?_set_self (by omega)] at hx
      simp only [Option.some.injEq] at hx
      subst hx
      have h':p < L'.length:=f1.2.1
      refine ⟨fun t h=>?_,by simp,.inl rfl⟩
      have ht':t=p ∨ t=to:=by simpa using h
      omega
    · rw [List.getElem?_set_ne e] at hx
      exact i1 i x (by omega) hx
structure RuleAt (T:List PNode) (L:List PState) (q r lo hi:Nat):Prop where
  con:Con T L (G.lang T q) r 0 lo hi
  le:lo≤hi
  pos:1≤lo
  top:hi≤L.length
  beg:r < L.length
structure AllS (T:List PNode) (Q:List Nat) (L:List PState) (B F:List Nat):Prop where
  shp:∀ x ∈ L,Shp T L.length x
  zero:L[0]?=some ⟨-1,[]⟩
  lenB:B.length=Q.length
  lenF:F.length=Q.length + 1
  rule:∀ (j q:Nat),Q[j]?=some q→∃ r lo hi,B[j]?=some r∧F[j]?=some lo∧F[j + 1]?=some hi∧RuleAt T L q r lo hi
theorem AllR.old {T:List PNode} (hT:G.WF T) {qs:List Nat} {L L':List PState} {B F B' F':List Nat} (h:AllR T qs L B F L' B' F'):(∀ q ∈ qs,q < T.length)→1≤L.length→(L.length≤L'.length∧∀ i,i < L.length→L'[i]?=L[i]?)∧(∃ bs,B'=B ++ bs∧bs.length=qs.length)∧∃ fs,F'=F ++ fs∧fs.length=qs.length + 1∧fs[0]?=some L.length:=by
  induction h with
  | @nil L B F=>intro _ _;exact ⟨⟨Nat.le_refl _,fun _ _=>rfl⟩,⟨[],by simp,rfl⟩,⟨[L.length],rfl,rfl,rfl⟩⟩
  | @cons q qs L B F r L1 L' B' F' hm hr ih =>
    intro hq h1
    have f1:=hm.fine hT (hq q (by simp)) (by omega)
    obtain ⟨⟨a1,a2⟩,⟨bs,b1,b2⟩,⟨fs,c1,c2,c3⟩⟩:=ih (fun p hp=>hq p (by simp [hp])) (by have:=f1.1;omega)
    refine ⟨⟨by have:=f1.1;omega,fun i hi=>by rw [a2 i (by have:=f1.1;omega)];exact f1.2.2.2 i hi⟩,⟨r :: bs,by rw [b1];simp,by simp [b2]⟩,⟨L.length :: fs,by rw [c1];simp,by simp [c2],rfl⟩⟩
theorem AllR.rules {T:List PNode} (hT:G.WF T) (hp:∀ x ∈ T,x.parts.length≤100000) {qs:List Nat} {L L':List PState} {B F B' F':List Nat} (h:AllR T qs L B F L' B' F'):(∀ q ∈ qs,q < T.length)→1≤L.length→B.length=F.length→(∀ x ∈ L,Shp T L.length x) →
    (∀ x ∈ L',Shp T L'.length x)∧∀ (j q:Nat),qs[j]?=some q→∃ r lo hi,B'[B.length + j]?=some r∧F'[B.length + j]?=some lo∧F'[B.length + j + 1]?=some hi∧RuleAt T L' q r lo hi:=by
  induction h with
  | nil=>intro _ _ _ h;exact ⟨h,fun j q hj=>by simp at hj⟩
  | @cons q qs L B F r L1 L' B' F' hm hr ih =>
    intro hq h1 hBF hsh
    have hql:q < T.length:=hq q (by simp)
    have f1:=hm.fine hT hql (by omega)
    have s1:=hm.shape hT hp hql (by omega)
    have o1:=hr.old hT (fun p hp=>hq p (by simp [hp])) (by have:=f1.1;omega)
    have hsh1:∀ x ∈ L1,Shp T L1.length x:=by
      intro x hx
      obtain ⟨i,hi⟩:=List.getElem?_of_mem hx
      rcases Nat.lt_or_ge i L.length with hl | hl
      · rw [f1.2.2.2 i hl] at hi
        exact (hsh x (List.mem_of_getElem? hi)).mono f1.1
      · exact s1.1 i x hl hi
    obtain ⟨i1,i2⟩:=ih (fun p hp=>hq p (by simp [hp])) (by have:=f1.1;omega) (by simp [hBF]) hsh1
    refine ⟨i1,fun j p hj=>?_⟩
    cases j with
    | zero =>
      simp only [List.getElem?_cons_zero,Option.some.injEq] at hj
      subst hj
      obtain ⟨⟨a1,a2⟩,⟨bs,b1,b2⟩,⟨fs,c1,c2,c3⟩⟩:=o1
      have hr':r < L1.length:=f1.2.1
      refine ⟨r,L.length,L1.length,by rw [b1];simp,by rw [c1,hBF];simp,?_,?_⟩
      · rw [c1,hBF,Nat.add_zero,List.getElem?_append_right (by simp),List.length_append,List.length_singleton,Nat.sub_self]
        exact c3
      · exact ⟨hm.ok (S:=L') hT hql (by omega) (fun i _ h2=>a2 i h2),f1.1,h1,a1,by omega⟩
    | succ j =>
      obtain ⟨r',lo,hi,g1,g2,g3,g4⟩:=i2 j p (by simpa using hj)
      simp only [List.length_append,List.length_singleton] at g1 g2 g3
      refine ⟨r',lo,hi,?_,?_,?_,g4⟩
      · rw [← g1];congr 1;omega
      · rw [← g2];congr 1;omega
      · rw [← g3];congr 1;omega
theorem AllR.all {T:List PNode} (hT:G.WF T) (hp:∀ x ∈ T,x.parts.length≤100000) {Q:List Nat} {L:List PState} {B F:List Nat} (h:AllR T Q [⟨-1,[]⟩] [] [] L B F) (hQ:∀ q ∈ Q,q < T.length):AllS T Q L B F:=by
  obtain ⟨⟨a1,a2⟩,⟨bs,b1,b2⟩,⟨fs,c1,c2,c3⟩⟩:=h.old hT hQ (by simp)
  obtain ⟨i1,i2⟩:=h.rules hT hp hQ (by simp) rfl (fun x hx=>by
    have:x=⟨-1,[]⟩:=by simpa using hx
    subst this
    exact ⟨fun t h=>by simp at h,by simp,.inl rfl⟩)
  refine { shp:=i1,zero:=by rw [a2 0 (by simp)];rfl,lenB:=by rw [b1];simpa using b2,lenF:=by rw [c1];simpa using c2,rule:=fun j q hj=>?_ }
  have:=i2 j q hj
  simpa using this
theorem run_zero {T:List PNode} {L:List PState} (h0:L[0]?=some ⟨-1,[]⟩) {k:Nat} {u:List Int} {e:Nat} (h:Run T L k 0 u e):u=[]∧e=0:=by
  by_cases he:e=0
  · subst he
    cases h with
    | here=>exact ⟨rfl,rfl⟩
    | free h1 h2 h3 h4 =>
      rw [h0] at h1
      simp only [Option.some.injEq] at h1
      subst h1
      simp at h3
    | eat h1 h2 =>
      rw [h0] at h1
      simp only [Option.some.injEq] at h1
      subst h1
      exact absurd h2 (by show ¬ (-1:Int)=_;omega)
  · obtain ⟨k',t,_,ht,_⟩:=run_free_inv h0 h (fun e'=>he e'.symm)
    simp at ht
theorem RuleAt.out {T:List PNode} {L:List PState} {q r lo hi:Nat} (h0:L[0]?=some ⟨-1,[]⟩) (h:RuleAt T L q r lo hi) {k:Nat} {u:List Int} {e:Nat} (hr:Run T L k r u e):(lo≤e∧e < hi) ∨ (e=0∧G.lang T q u):=by
  by_cases he:lo≤e∧e < hi
  · exact .inl he
  · obtain ⟨k',u1,u2,_,rfl,hA,hr'⟩:=h.con.sound k u e (by omega) hr
    obtain ⟨rfl,rfl⟩:=run_zero h0 hr'
    exact .inr ⟨rfl,by simpa using hA⟩
theorem RuleAt.ends {T:List PNode} {L:List PState} {q r lo hi:Nat} (h0:L[0]?=some ⟨-1,[]⟩) (h:RuleAt T L q r lo hi) (u:List Int):(∃ k,Run T L k r u 0) ↔ G.lang T q u:=by
  constructor
  · rintro ⟨k,hr⟩
    rcases h.out h0 hr with h1 | h1
    · have:=h.pos;omega
    · exact h1.2
  · exact h.con.comp u
theorem Run.first {T:List PNode} {S:List PState} {k s:Nat} {w:List Int} {e:Nat} (h:Run T S k s w e):∀ c v,w=c :: v→∃ k1 m x n y t k2,Run T S k1 s [] m∧S[m]?=some x∧x.node=((n:Nat):Int)∧T[n]?=some y∧x.next[0]?=some t∧G.inV y c=true∧Run T S k2 t v e:=by
  induction h with
  | here=>intro c v h;cases h
  | free h1 h2 h3 _ ih =>
    intro c v hw
    obtain ⟨k1,m,x,n,y,t,k2,g1,g⟩:=ih c v hw
    exact ⟨_,m,x,n,y,t,k2,.free h1 h2 h3 g1,g⟩
  | eat h1 h2 h3 h4 h5 h6 _ =>
    intro c v hw
    simp only [List.cons.injEq] at hw
    obtain ⟨rfl,rfl⟩:=hw
    exact ⟨_,_,_,_,_,_,_,.here,h1,h2,h3,h4,h5,h6⟩
theorem run_snoc {T:List PNode} {S:List PState} {s e:Nat} {u:List Int} {c:Int}:(∃ k,Run T S k s (u ++ [c]) e) ↔ ∃ m x n y t,(∃ k,Run T S k s u m)∧S[m]?=some x∧x.node=((n:Nat):Int)∧T[n]?=some y∧x.next[0]?=some t∧G.inV y c=true∧∃ k,Run T S k t [] e:=by
  constructor
  · rintro ⟨k,h⟩
    obtain ⟨m,k1,k2,g1,g2⟩:=h.split u [c] rfl
    obtain ⟨k3,m',x,n,y,t,k4,h1,h2,h3,h4,h5,h6,h7⟩:=g2.first c [] rfl
    exact ⟨m',x,n,y,t,⟨_,by simpa using g1.append h1⟩,h2,h3,h4,h5,h6,_,h7⟩
  · rintro ⟨m,x,n,y,t,⟨k,g⟩,h2,h3,h4,h5,h6,k',h7⟩
    exact ⟨_,g.append (.eat h2 h3 h4 h5 h6 h7)⟩
end Rf
end Go.Proofs.YtpgcidpghmoibaaGreatDoor

namespace Go.Proofs.YtpgcidpghmoibaaGreatDoor
namespace Rf
open G (PNode Lang)
def tr (M:List Bool) (i:Nat):Prop:=M[i]?=some true
def nots:List Bool→Nat
  | []=>0
  | true :: M=>nots M
  | false :: M=>nots M + 1
theorem nots_set:∀ (M:List Bool) (s:Nat),M[s]?=some false→nots (M.set s true) + 1=nots M
  | [],s,h=>by simp at h
  | b :: M,0,h=>by
    simp only [List.getElem?_cons_zero,Option.some.injEq] at h
    subst h
    rfl
  | b :: M,s + 1,h=>by
    have ih:=nots_set M s (by simpa using h)
    cases b <;> simp only [List.set_cons_succ,nots] <;> omega
theorem nots_le:∀ (M M':List Bool),M'.length=M.length→(∀ i,tr M i→tr M' i)→nots M'≤nots M
  | [],[],_,_=>Nat.le_refl _
  | [],_ :: _,h,_=>by simp at h
  | _ :: _,[],h,_=>by simp at h
  | b :: M,b' :: M',hl,h=>by
    have ih:=nots_le M M' (by simpa using hl) (fun i hi=>by
      have:=h (i + 1) (by simpa [tr] using hi)
      simpa [tr] using this)
    have h0:=h 0
    simp only [tr,List.getElem?_cons_zero,Option.some.injEq] at h0
    cases b <;> cases b' <;> simp only [nots] <;> first | omega | simp at h0
theorem tr_set {M:List Bool} {s:Nat} (hs:s < M.length) (i:Nat):tr (M.set s true) i ↔ i=s ∨ tr M i:=by
  unfold tr
  by_cases e:s=i
  · subst e
    rw [List.getElem?_set_self hs]
    simp
  · rw [List.getElem?_set_ne e]
    constructor
    · exact .inr
    · rintro (h | h)
      · exact absurd h.symm e
      · exact h
structure Sp (T:List PNode) (L:List PState) (M:List Bool) (s:Nat) (M':List Bool):Prop where
  len:M'.length=M.length
  mono:∀ i,tr M i→tr M' i
  self:tr M' s
  clo:∀ i x,tr M' i→¬ tr M i→L[i]?=some x→x.node < 0→∀ t ∈ x.next,tr M' t
  reach:∀ i,tr M' i→tr M i ∨ ∃ k,Run T L k s [] i
structure SpP (T:List PNode) (L:List PState) (M:List Bool) (s:Nat) (x:PState) (M':List Bool) (j:Nat):Prop where
  len:M'.length=M.length
  mono:∀ i,tr M i→tr M' i
  self:tr M' s
  clo:∀ i y,tr M' i→¬ tr M i→i ≠ s→L[i]?=some y→y.node < 0→∀ t ∈ y.next,tr M' t
  part:∀ j' t,j' < j→x.next[j']?=some t→tr M' t
  reach:∀ i,tr M' i→tr M i ∨ ∃ k,Run T L k s [] i
  few:nots M' < nots M
variable {T:List PNode} {L:List PState} {M M' M2:List Bool} {s:Nat} {x:PState}
theorem Sp.done (h:tr M s):Sp T L M s M:=⟨rfl,fun _ h=>h,h,fun _ _ h1 h2=>absurd h1 h2,fun _ h=>.inl h⟩
theorem SpP.start (hs:s < M.length) (h:M[s]?=some false):SpP T L M s x (M.set s true) 0 where
  len:=by simp
  mono i hi:=(tr_set hs i).2 (.inr hi)
  self:=(tr_set hs s).2 (.inl rfl)
  clo i y h1 h2 h3:=by
    rcases (tr_set hs i).1 h1 with h | h
    · exact absurd h h3
    · exact absurd h h2
  part j' t h:=by omega
  reach i hi:=by
    rcases (tr_set hs i).1 hi with h | h
    · subst h;exact .inr ⟨0,.here⟩
    · exact .inl h
  few:=by have:=nots_set M s h;omega
theorem SpP.next (hx:L[s]?=some x) (hn:x.node < 0) {j t:Nat} (ht:x.next[j]?=some t) (h:SpP T L M s x M' j) (g:Sp T L M' t M2):SpP T L M s x M2 (j + 1) where
  len:=g.len.trans h.len
  mono i hi:=g.mono i (h.mono i hi)
  self:=g.mono s h.self
  clo i y h1 h2 h3 hy hyn u hu:=by
    by_cases hi:tr M' i
    · exact g.mono u (h.clo i y hi h2 h3 hy hyn u hu)
    · exact g.clo i y h1 hi hy hyn u hu
  part j' u hj hu:=by
    rcases Nat.lt_or_ge j' j with hl | hl
    · exact g.mono u (h.part j' u hl hu)
    · have:j'=j:=by omega
      subst this
      rw [ht] at hu
      simp only [Option.some.injEq] at hu
      subst hu
      exact g.self
  reach i hi:=by
    rcases g.reach i hi with hi | ⟨k,hr⟩
    · exact h.reach i hi
    · exact .inr ⟨_,.free hx hn (List.mem_of_getElem? ht) hr⟩
  few:=by have:=nots_le M' M2 g.len g.mono;have:=h.few;omega
theorem SpP.fin (hx:L[s]?=some x) {j:Nat} (h:SpP T L M s x M' j) (hj:x.node < 0→x.next.length≤j):Sp T L M s M' where
  len:=h.len
  mono:=h.mono
  self:=h.self
  clo i y h1 h2 hy hyn u hu:=by
    by_cases e:i=s
    · subst e
      rw [hx] at hy
      simp only [Option.some.injEq] at hy
      subst hy
      obtain ⟨j',hj'⟩:=List.getElem?_of_mem hu
      have:j' < x.next.length:=(List.getElem?_eq_some_iff.1 hj').1
      exact h.part j' u (by have:=hj hyn;omega) hj'
    · exact h.clo i y h1 h2 e hy hyn u hu
  reach:=h.reach
def Cl (L:List PState) (M:List Bool):Prop:=∀ i x,tr M i→L[i]?=some x→x.node < 0→∀ t ∈ x.next,tr M t
theorem Cl.run (h:Cl L M) {k s:Nat} {u:List Int} {e:Nat} (hr:Run T L k s u e):u=[]→tr M s→tr M e:=by
  induction hr with
  | here=>intro _ h;exact h
  | free h1 h2 h3 _ ih=>intro hu hs;exact ih hu (h _ _ hs h1 h2 _ h3)
  | eat=>intro hu;cases hu
theorem Sp.closed (g:Sp T L M s M') (h:Cl L M):Cl L M':=by
  intro i x hi hx hn t ht
  by_cases hm:tr M i
  · exact g.mono t (h i x hm hx hn t ht)
  · exact g.clo i x hi hm hx hn t ht
theorem Sp.iff (g:Sp T L M s M') (h:Cl L M) (i:Nat):tr M' i ↔ tr M i ∨ ∃ k,Run T L k s [] i:=by
  constructor
  · exact g.reach i
  · rintro (h1 | ⟨k,hr⟩)
    · exact g.mono i h1
    · exact (g.closed h).run hr rfl g.self
theorem Cl.none (n:Nat):Cl L (List.replicate n false):=by
  intro i x hi
  unfold tr at hi
  rw [List.getElem?_replicate] at hi
  split at hi <;> simp at hi
theorem tr_none (n i:Nat):¬ tr (List.replicate n false) i:=by
  intro hi
  unfold tr at hi
  rw [List.getElem?_replicate] at hi
  split at hi <;> simp at hi
structure Most (A:Lang) (us:List Int) (n:Nat):Prop where
  le:n≤us.length
  ok:n=0 ∨ A (us.take n)
  top:∀ m,n < m→m≤us.length→¬ A (us.take m)
structure MostTo (A:Lang) (us:List Int) (k n:Nat):Prop where
  le:n≤k
  ok:n=0 ∨ A (us.take n)
  top:∀ m,n < m→m≤k→¬ A (us.take m)
theorem MostTo.zero (A:Lang) (us:List Int):MostTo A us 0 0:=⟨Nat.le_refl _,.inl rfl,fun m h1 h2=>by omega⟩
theorem MostTo.yes {A:Lang} {us:List Int} {k n:Nat} (_:MostTo A us k n) (g:A (us.take (k + 1))):MostTo A us (k + 1) (k + 1):=⟨Nat.le_refl _,.inr g,fun m h1 h2=>by omega⟩
theorem MostTo.no {A:Lang} {us:List Int} {k n:Nat} (h:MostTo A us k n) (g:¬ A (us.take (k + 1))):MostTo A us (k + 1) n:=by
  refine ⟨by have:=h.le;omega,h.ok,fun m h1 h2=>?_⟩
  rcases Nat.lt_or_ge k m with hm | hm
  · have:m=k + 1:=by omega
    rw [this]
    exact g
  · exact h.top m h1 hm
theorem MostTo.all {A:Lang} {us:List Int} {n:Nat} (h:MostTo A us us.length n):Most A us n:=⟨h.le,h.ok,h.top⟩
def Marks (T:List PNode) (L:List PState) (r:Nat) (u:List Int) (M:List Bool):Prop:=∀ i,tr M i ↔ ∃ k,Run T L k r u i
def MarksTo (T:List PNode) (L:List PState) (M:List Bool) (c:Int) (lo s:Nat) (M':List Bool):Prop:=
  ∀ i,tr M' i ↔ ∃ m x n y t,lo≤m∧m < s∧tr M m∧L[m]?=some x∧x.node=((n:Nat):Int)∧T[n]?=some y∧x.next[0]?=some t∧G.inV y c=true∧∃ k,Run T L k t [] i
theorem MarksTo.zero (c:Int) (lo n:Nat):MarksTo T L M c lo lo (List.replicate n false):=fun i=>by
  constructor
  · intro h;exact absurd h (tr_none n i)
  · rintro ⟨m,_,_,_,_,h1,h2,_⟩;omega
theorem MarksTo.pass {c:Int} {lo s:Nat} (h:MarksTo T L M c lo s M') (hno:∀ x n y,tr M s→L[s]?=some x→x.node=((n:Nat):Int)→T[n]?=some y→G.inV y c=false):MarksTo T L M c lo (s + 1) M':=fun i=>by
  rw [h i]
  constructor
  · rintro ⟨m,x,n,y,t,h1,h2,h3⟩;exact ⟨m,x,n,y,t,h1,by omega,h3⟩
  · rintro ⟨m,x,n,y,t,h1,h2,h3,h4,h5,h6,h7,h8,h9⟩
    by_cases e:m=s
    · subst e
      rw [hno x n y h3 h4 h5 h6] at h8
      cases h8
    · exact ⟨m,x,n,y,t,h1,by omega,h3,h4,h5,h6,h7,h8,h9⟩
theorem MarksTo.take {c:Int} {lo s:Nat} (hlo:lo≤s) (h:MarksTo T L M c lo s M') (hM:tr M s) (hx:L[s]?=some x) {n t:Nat} {y:PNode} (hn:x.node=(n:Int)) (hy:T[n]?=some y) (ht:x.next[0]?=some t) (hc:G.inV y c=true) (g:Sp T L M' t M2) (hcl:Cl L M'):MarksTo T L M c lo (s + 1) M2:=fun i=>by
  rw [g.iff hcl i,h i]
  constructor
  · rintro (⟨m,x',n',y',t',h1,h2,h3⟩ | h9)
    · exact ⟨m,x',n',y',t',h1,by omega,h3⟩
    · exact ⟨s,x,n,y,t,hlo,by omega,hM,hx,hn,hy,ht,hc,h9⟩
  · rintro ⟨m,x',n',y',t',h1,h2,h3,h4,h5,h6,h7,h8,h9⟩
    by_cases e:m=s
    · subst e
      rw [hx] at h4
      simp only [Option.some.injEq] at h4
      subst h4
      rw [ht] at h7
      simp only [Option.some.injEq] at h7
      subst h7
      exact .inr h9
    · exact .inl ⟨m,x',n',y',t',h1,by omega,h3,h4,h5,h6,h7,h8,h9⟩
theorem Marks.next {q r lo hi:Nat} (h0:L[0]?=some ⟨-1,[]⟩) (hR:RuleAt T L q r lo hi) {u:List Int} {c:Int} (h:Marks T L r u M) (g:MarksTo T L M c lo hi M'):Marks T L r (u ++ [c]) M':=fun i=>by
  rw [g i,run_snoc]
  constructor
  · rintro ⟨m,x,n,y,t,h1,h2,h3,h4⟩
    exact ⟨m,x,n,y,t,(h m).1 h3,h4⟩
  · rintro ⟨m,x,n,y,t,h3,h4,h5,h6⟩
    refine ⟨m,x,n,y,t,?_,?_,(h m).2 h3,h4,h5,h6⟩ <;>
    · obtain ⟨k,h3⟩:=h3
      rcases hR.out h0 h3 with h | h
      · omega
      · rw [h.1,h0] at h4
        simp only [Option.some.injEq] at h4
        subst h4
        exact absurd h5 (by show ¬ (-1:Int)=_;omega)
theorem Marks.stop {q r lo hi:Nat} (h0:L[0]?=some ⟨-1,[]⟩) (hR:RuleAt T L q r lo hi) {us:List Int} {k n:Nat} {c:Int} (hc:us[k]?=some c) (h:Marks T L r (us.take k) M) (hno:∀ m x n y,lo≤m→m < hi→tr M m→L[m]?=some x→x.node=((n:Nat):Int)→T[n]?=some y→G.inV y c=false) (hm:MostTo (G.lang T q) us k n):Most (G.lang T q) us n:=by
  have hk:k < us.length:=(List.getElem?_eq_some_iff.1 hc).1
  refine ⟨by have:=hm.le;omega,hm.ok,fun m h1 h2 hA=>?_⟩
  rcases Nat.lt_or_ge k m with hl | hl
  · have e:us.take m=us.take k ++ c :: (us.drop (k + 1)).take (m - (k + 1)):=by
      have h3:us=us.take k ++ c :: us.drop (k + 1):=by
        rw [← (List.getElem?_eq_some_iff.1 hc).2]
        simp
      have hlen:(us.take k).length=k:=by simp;omega
      conv=>lhs;rw [h3]
      rw [List.take_append,hlen,List.take_of_length_le (by omega),show m - k=(m - (k + 1)) + 1 by omega,List.take_succ_cons]
    rw [e] at hA
    obtain ⟨k1,hr⟩:=hR.con.comp _ hA
    obtain ⟨m1,k2,k3,g1,g2⟩:=hr.split _ _ rfl
    obtain ⟨k4,m',x,n',y,t,k5,i1,i2,i3,i4,i5,i6,i7⟩:=g2.first c _ rfl
    have hin:∃ k',Run T L k' r (us.take k) m':=⟨_,by simpa using g1.append i1⟩
    obtain ⟨k6,hin'⟩:=hin
    rcases hR.out h0 hin' with h | h
    · have:=hno m' x n' y h.1 h.2 ((‹Marks T L r (us.take k) M› m').2 ⟨_,hin'⟩) i2 i3 i4
      rw [this] at i6
      cases i6
    · rw [h.1,h0] at i2
      simp only [Option.some.injEq] at i2
      subst i2
      exact absurd i3 (by show ¬ (-1:Int)=_;omega)
  · exact hm.top m h1 hl hA
end Rf
end Go.Proofs.YtpgcidpghmoibaaGreatDoor

namespace Go.Proofs.YtpgcidpghmoibaaGreatDoor
namespace Rf
open Go.RowKit
open G (PNode Lang)
structure RfAt (w:World) (b:Nat) (T:List PNode) (Q:List Nat) (L:List PState) (B F:List Nat) (I:Nat→Prop):Prop where
  ex:∃ cs vN vR vS vB vF V W,SaAt w b T Q L B F cs vN vR vS vB vF V W∧∀ k,FootS b vN vR vS vB vF V W k→I k
  lt:∀ k,I k→k < w.heap.size
theorem RfAt.same {w w':World} {b:Nat} {T:List PNode} {Q:List Nat} {L:List PState} {B F:List Nat} {I:Nat→Prop} (h:RfAt w b T Q L B F I) (hs:w.heap.size≤w'.heap.size) (hk:∀ k,I k→w'.heap[k]?=w.heap[k]?):RfAt w' b T Q L B F I:=by
  obtain ⟨cs,vN,vR,vS,vB,vF,V,W,h1,h2⟩:=h.ex
  exact ⟨⟨cs,vN,vR,vS,vB,vF,V,W,h1.same (fun k e=>hk k (h2 k e)),h2⟩,fun k hi=>Nat.lt_of_lt_of_le (h.lt k hi) hs⟩
theorem RfAt.kept {w w':World} {b:Nat} {T:List PNode} {Q:List Nat} {L:List PState} {B F:List Nat} {I p:Nat→Prop} (h:RfAt w b T Q L B F I) (hk:Kept p w w') (hp:∀ k,I k→p k):RfAt w' b T Q L B F I:=
  h.same hk.size (fun k hi=>hk.block k (h.lt k hi) (hp k hi))
theorem RfAt.below {w w':World} {b:Nat} {T:List PNode} {Q:List Nat} {L:List PState} {B F:List Nat} {I:Nat→Prop} (h:RfAt w b T Q L B F I) (hb:Below w.heap.size w w'):RfAt w' b T Q L B F I:=
  h.same hb.size (fun k hi=>hb.block k (h.lt k hi))
theorem RfAt.of_sa {w:World} {b:Nat} {S M:Nat→Prop} {T:List PNode} {Q:List Nat} {L:List PState} {B F:List Nat} (h:Sa w b S M T Q L B F):RfAt w b T Q L B F S:=by
  obtain ⟨cs,vN,vR,vS,vB,vF,V,W,h1,_,h2,h3,_⟩:=h
  exact ⟨⟨cs,vN,vR,vS,vB,vF,V,W,h1,h2⟩,h3⟩
theorem scells_get {L:List PState} {W:List Value} {k:Nat} {x:PState} {v:Value} (hx:L[k]?=some x) (hv:W[k]?=some v) (o:Nat) (ho:o < 2):(scells L W)[k * 2 + o]?=(scell x v)[o]?:=
  flat_get (fun x:PState × Value=>scell x.1 x.2) 2 (fun _=>rfl) (L.zip W) k o (x,v) (List.getElem?_zip_eq_some.2 ⟨hx,hv⟩) ho
structure StAt (w:World) (b:Nat) (L:List PState) (I:Nat→Prop) (s:Nat) (x:PState):Prop where
  ex:∃ gS capS pa pc,w.cell? ⟨b,8,none⟩=some (.slice (some ⟨gS,0,none⟩) L.length capS)∧w.cell? ⟨gS,s * 2,none⟩=some (.int .i64 x.node)∧w.cell? ⟨gS,s * 2 + 1,none⟩=some (.slice pa x.next.length pc)∧w.ownsRow 0 3 1 (.slice pa x.next.length pc) x.next.length (ints x.next)∧I gS∧(∀ k,(Value.slice pa x.next.length pc).ownBlock=some k→I k)∧I b
theorem RfAt.st {w:World} {b:Nat} {T:List PNode} {Q:List Nat} {L:List PState} {B F:List Nat} {I:Nat→Prop} (h:RfAt w b T Q L B F I) {s:Nat} {x:PState} (hx:L[s]?=some x):StAt w b L I s x:=by
  obtain ⟨cs,vN,vR,vS,vB,vF,V,W,h1,h2⟩:=h.ex
  have hs:s < L.length:=(List.getElem?_eq_some_iff.1 hx).1
  have hv:W[s]?=some (W[s]'(by rw [h1.len];exact hs)):=List.getElem?_eq_getElem _
  generalize W[s]'(by rw [h1.len];exact hs)=v at hv
  have oW:=h1.oW s x v hx hv
  obtain ⟨pa,pc,he⟩:=own_len oW
  subst he
  obtain ⟨gS,capS,hvS,_,_⟩:=h1.oS.form (by omega)
  subst hvS
  exact ⟨gS,capS,pa,pc,cell_blk h1.ro.blk 8 _ h1.c8,own_cell' h1.oS (s * 2 + 0) ((scells_get hx hv 0 (by omega)).trans rfl),own_cell' h1.oS (s * 2 + 1) ((scells_get hx hv 1 (by omega)).trans rfl),oW,h2 _ (.inr (.inl rfl)),fun k e=>h2 k (.inr (.inr (.inr (.inr (.inr (.inr (.inr ⟨_,List.mem_of_getElem? hv,e⟩))))))),h2 b (.inl rfl)⟩
def bools (M:List Bool):List Value:=M.map Value.bool
def SpreadAt (b:Nat) (T:List PNode) (Q:List Nat) (L:List PState) (B F:List Nat) (I:Nat→Prop) (c:Nat):Prop:=
  ∀ (w:World) (g cap s:Nat) (M:List Bool),nots M < c→RfAt w b T Q L B F I→¬ I g→w.ownsRow 0 4 1 (.slice (some ⟨g,0,none⟩) L.length cap) L.length (bools M)→M.length=L.length→s < L.length →
    Calls Tryz.prog 139 #[.pointer (some ⟨b,0,none⟩),.slice (some ⟨g,0,none⟩) L.length cap,.int .i64 (s:Int)] w fun e w'=>e=.returned (.tuple #[])∧∃ M',Sp T L M s M'∧w'.ownsRow 0 4 1 (.slice (some ⟨g,0,none⟩) L.length cap) L.length (bools M')∧Kept (fun k=>k ≠ g) w w'
set_option maxRecDepth 100000 in
set_option maxHeartbeats 1000000 in
theorem spread_at (b:Nat) (T:List PNode) (Q:List Nat) (L:List PState) (B F:List Nat) (I:Nat→Prop) (hsh:∀ x ∈ L,Shp T L.length x) (_hll:L.length≤100000) (c:Nat) (hIH:SpreadAt b T Q L B F I c):SpreadAt b T Q L B F I (c + 1):=by
  intro w g cap s M hc hR hIg hrow hMl hs
  have hxL:L[s]?=some (L[s]'hs):=List.getElem?_eq_getElem hs
  generalize L[s]'hs=x at hxL
  have hms:M[s]?=some (M[s]'(by omega)):=List.getElem?_eq_getElem _
  generalize M[s]'(by omega)=m at hms
  have cm:w.cell? ⟨g,s,none⟩=some (.bool m):=own_cell' hrow s (by simp [bools,hms])
  have fm:=hrow.frozenAt s
  cases m with
  | true =>
    go_enter Tryz.func139,Tryz.ntmps139
    go_wp2
    refine bodyPost_ret (results_none rfl _ _ _) rfl ?_
    exact ⟨rfl,M,Sp.done hms,hrow,Kept.refl _ _⟩
  | false =>
    obtain ⟨gS,capS,pa,pc,c8,s0,s1,oW,iS,iW,ib⟩:=(hR.st hxL).ex
    have hbg:b ≠ g:=fun e=>hIg (e ▸ ib)
    have hSg:gS ≠ g:=fun e=>hIg (e ▸ iS)
    have hgl:=(hrow.lt g rfl).2
    have hSl:=hR.lt gS iS
    have hbl:=hR.lt b ib
    obtain ⟨hn1,hn2,hn3⟩:=hsh x (List.mem_of_getElem? hxL)
    have hst:=(hrow.stored s (.bool true)).1
    have hset:bools (M.set s true)=(bools M).set s (.bool true):=by simp [bools,List.map_set]
    rw [← hset] at hst
    go_enter Tryz.func139,Tryz.ntmps139
    go_wp2
    go_loopw [7] (fun vi wr=>∃ (j:Nat) (M':List Bool),vi=.int .i64 j∧j≤x.next.length∧SpP T L M s x M' j∧wr.ownsRow 0 4 1 (.slice (some ⟨g,0,none⟩) L.length cap) L.length (bools M')∧wr.heap[w.heap.size]?=some (.cells #[.int .i64 x.node,.slice pa x.next.length pc] 194 (0,0))∧Kept (fun k=>k ≠ g) w wr) (fun vi _=>x.next.length - (intOf vi).toNat)
    case atStart =>
      refine ⟨0,M.set s true,rfl,Nat.zero_le _,SpP.start (by omega) hms,hst.alloc _,?_,((Kept.refl _ w).setCell (fun hn=>hn rfl) _).alloc _⟩
      have e:=heap_alloc_new (w.setCell ⟨g,s,none⟩ (.bool true)) (.cells #[.int .i64 x.node,.slice pa x.next.length pc] 194)
      rwa [show (w.setCell ⟨g,s,none⟩ (.bool true)).heap.size=w.heap.size by simp [World.setCell]] at e
    case round =>
      obtain ⟨j,M',rfl,hj,hP,hrow',hbox,hk⟩:=hrel
      have b0:=cell_blk hbox 0 (.int .i64 x.node) rfl
      have b1:=cell_blk hbox 1 (.slice pa x.next.length pc) rfl
      by_cases hneg:x.node < 0
      · by_cases hlt:j < x.next.length
        · have htj:x.next[j]?=some (x.next[j]'hlt):=List.getElem?_eq_getElem hlt
          generalize x.next[j]'hlt=t at htj
          have htl:=hn1 t (List.mem_of_getElem? htj)
          have oW':=own_same oW (fun k e=>hk.block k (hR.lt k (iW k e)) (fun e2=>hIg (e2 ▸ iW k e)))
          obtain ⟨gp,capp,hvp,_,_⟩:=oW'.form (by omega)
          simp only [Value.slice.injEq] at hvp
          obtain ⟨rfl,_,rfl⟩:=hvp
          have cp:wr.cell? ⟨gp,j,none⟩=some (.int .i64 (t:Int)):=own_cell' oW' j (by simp [ints,htj])
          have hN:=hIH wr g cap t M' (by have:=hP.few;omega) (hR.kept hk (fun k hi e=>hIg (e ▸ hi))) hIg hrow' (by rw [hP.len];exact hMl) htl
          go_wp2_with (go_at_call 139;refine hN.mono ?_;rintro e w2 ⟨rfl,M2,hSp,hrow2,hk2⟩)
          go_roundw
          case rel=>exact ⟨j + 1,M2,by go_num,by omega,hP.next hxL hneg htj hSp,hrow2,(hk2.block _ (lt_of_block hbox) (by omega)).trans hbox,hk.trans hk2⟩
          case measure=>simp [intOf];omega
        · go_wp2
          first | go_ret2 | go_ret3 | go_returns
          exact ⟨rfl,M',hP.fin hxL (fun _=>by omega),hrow',hk⟩
      · by_cases hlt:j < x.next.length
        all_goals
          go_wp2
          first | go_ret2 | go_ret3 | go_returns
          exact ⟨rfl,M',hP.fin hxL (fun h=>by omega),hrow',hk⟩
theorem spread_any (b:Nat) (T:List PNode) (Q:List Nat) (L:List PState) (B F:List Nat) (I:Nat→Prop) (hsh:∀ x ∈ L,Shp T L.length x) (hll:L.length≤100000):∀ c,SpreadAt b T Q L B F I c
  | 0=>fun _ _ _ _ _ h=>by omega
  | c + 1=>spread_at b T Q L B F I hsh hll c (spread_any b T Q L B F I hsh hll c)
end Rf
end Go.Proofs.YtpgcidpghmoibaaGreatDoor
