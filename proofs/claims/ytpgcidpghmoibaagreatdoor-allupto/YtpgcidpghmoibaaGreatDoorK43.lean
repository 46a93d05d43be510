/-
  THE PROGRAM's MACHINE, as plain functions
  THE PROGRAM's LONGEST MATCH, as plain functions
  THE PROGRAM's LONGEST MATCH
-/
import Derived.Test.YtpgcidpghmoibaaGreatDoorK42
namespace Go.Proofs.YtpgcidpghmoibaaGreatDoor
namespace Pr
open G (PNode Lang Gl Pth)
def off (T:List PNode) (Q:List Nat) (k:Nat):Nat:=((Q.take k).flatMap (G.lv T)).length
theorem off_zero (T:List PNode) (Q:List Nat):off T Q 0=0:=by simp [off]
theorem off_succ {T:List PNode} {Q:List Nat} {k q:Nat} (h:Q[k]?=some q):off T Q (k + 1)=off T Q k + (G.lv T q).length:=by
  unfold off
  rw [List.take_add_one,h]
  simp
theorem off_mono (T:List PNode) (Q:List Nat) {j k:Nat} (h:j≤k):off T Q j≤off T Q k:=by
  induction k with
  | zero=>rw [show j=0 by omega];exact Nat.le_refl _
  | succ k ih =>
    by_cases e:j=k + 1
    · rw [e];exact Nat.le_refl _
    · have:=ih (by omega)
      cases hq:Q[k]? with
      | none =>
        have:off T Q (k + 1)=off T Q k:=by
          unfold off
          rw [List.take_add_one,hq]
          simp
        omega
      | some q=>rw [off_succ hq];omega
theorem off_at (T:List PNode) (Q:List Nat) (i:Nat):∀ k,i < off T Q k→∃ j,j < k∧off T Q j≤i∧i < off T Q (j + 1)
  | 0,h=>by rw [off_zero] at h;omega
  | k + 1,h=>by
    by_cases e:i < off T Q k
    · obtain ⟨j,h1,h2⟩:=off_at T Q i k e
      exact ⟨j,by omega,h2⟩
    · exact ⟨k,by omega,by omega,h⟩
theorem mrk_at (k0 k rule:Nat) (l:PB) (P:List Pl) (i:Nat):(mrk k0 k rule l P)[i]?=P[i]?.map fun p=>if (decide (k0≤i) && decide (i < k))=true then p.mark rule (l.has i) else p:=by
  unfold mrk
  rw [List.getElem?_mapIdx]
theorem mrk_t (k0 k rule:Nat) (l:PB) (P:List Pl) (i:Nat) (c:Int):tP (mrk k0 k rule l P) i c ↔ tP P i c:=by
  unfold tP
  rw [mrk_at]
  cases P[i]? with
  | none=>simp
  | some p =>
    simp only [Option.map_some,Option.some.injEq]
    constructor
    · rintro ⟨q,rfl,h⟩
      refine ⟨p,rfl,?_⟩
      split at h
      · exact h
      · exact h
    · rintro ⟨q,rfl,h⟩
      refine ⟨_,rfl,?_⟩
      split
      · exact h
      · exact h
theorem mrk_b (k0 k rule:Nat) (l:PB) (P:List Pl) (i j:Nat):bP (mrk k0 k rule l P) i j ↔ bP P i j:=by
  unfold bP
  rw [mrk_at]
  cases P[i]? with
  | none=>simp
  | some p =>
    simp only [Option.map_some,Option.some.injEq]
    constructor
    · rintro ⟨q,rfl,h⟩
      refine ⟨p,rfl,?_⟩
      split at h
      · exact h
      · exact h
    · rintro ⟨q,rfl,h⟩
      refine ⟨_,rfl,?_⟩
      split
      · exact h
      · exact h
def lP (P:List Pl) (i:Nat):Prop:=∃ p,P[i]?=some p∧p.last=true
structure MaS (T:List PNode) (Q:List Nat) (k:Nat) (P:List Pl) (f:PB):Prop where
  len:P.length=off T Q k
  ok:OkP P
  okf:f.Ok
  fr:∀ i,hP f i→i < P.length
  gl:∀ j q,j < k→Q[j]?=some q→∃ e,Gl (tP P) (bP P) (fun i=>hP f i∧off T Q j≤i∧i < off T Q (j + 1)) (fun i=>lP P i∧off T Q j≤i∧i < off T Q (j + 1)) e (off T Q j) (off T Q (j + 1)) (G.lang T q)
  rule:∀ j i p,j < k→off T Q j≤i→i < off T Q (j + 1)→P[i]?=some p→p.rule=j
theorem machN_s {T:List PNode} (hT:G.WF T) {Q:List Nat} (hQ:∀ q ∈ Q,q < T.length) (hsz:off T Q Q.length≤128):∀ k,k≤Q.length→MaS T Q k (machN T Q k).1 (machN T Q k).2
  | 0,_=>{ len:=by rw [off_zero];rfl,ok:=fun p hp=>by simp [machN] at hp,okf:=PB.ok_zero,fr:=fun i h=>absurd h (hP_zero i),gl:=fun j q h=>by omega,rule:=fun j i p h=>by omega }
  | k + 1,hk=>by
    have ih:=machN_s hT hQ hsz k (by omega)
    have hx:Q[k]?=some (Q[k]'(by omega)):=List.getElem?_eq_getElem _
    have hg:Q.getD k 0=Q[k]'(by omega):=by rw [List.getD_eq_getElem?_getD,hx];rfl
    have hq:=hQ _ (List.getElem_mem (show k < Q.length by omega))
    have hgoal:machN T Q (k + 1)=ruleStep T k (Q[k]'(by omega)) (machN T Q k):=by rw [machN,hg]
    rw [hgoal]
    generalize Q[k]'(by omega)=q at *
    generalize machN T Q k=s at *
    have ho:=off_succ (T:=T) hx
    have hom:=off_mono T Q hk
    have hlen:=adN_len hT q hq s.1
    have hl:=ih.len
    have g:=adN_gl hT q hq s.1 ih.ok (by omega)
    unfold ruleStep
    generalize adN T q s.1=r at *
    have hrl:r.1.length=off T Q (k + 1):=by omega
    have hml:(mrk s.1.length r.1.length k r.2.l r.1).length=r.1.length:=by simp [mrk]
    have hold:∀ i,i < s.1.length→(mrk s.1.length r.1.length k r.2.l r.1)[i]?=s.1[i]?:=fun i hi=>by
      rw [mrk_at,g.old i hi]
      cases s.1[i]? with
      | none=>rfl
      | some p=>simp [show ¬ s.1.length≤i by omega]
    have hnew:∀ i p,s.1.length≤i→i < r.1.length→r.1[i]?=some p→(mrk s.1.length r.1.length k r.2.l r.1)[i]?=some (p.mark k (r.2.l.has i)):=fun i p h1 h2 hp=>by
      rw [mrk_at,hp]
      simp [h1,h2]
    have hfi:∀ i,hP (s.2.or r.2.f) i ↔ hP s.2 i ∨ hP r.2.f i:=fun i=>hP_or ih.okf g.okf i
    refine { len:=by show (mrk _ _ _ _ _).length=_;rw [hml];exact hrl,ok:=?_,okf:=ih.okf.or g.okf,fr:=?_,gl:=?_,rule:=?_ }
    · intro p hp
      obtain ⟨i,hi⟩:=List.mem_iff_getElem?.1 hp
      rw [mrk_at] at hi
      cases hr:r.1[i]? with
      | none=>rw [hr] at hi;simp at hi
      | some p0 =>
        rw [hr] at hi
        simp only [Option.map_some,Option.some.injEq] at hi
        subst hi
        have h0:p0.be.Ok:=g.ok.at hr
        split
        · exact h0
        · exact h0
    · intro i h
      show i < (mrk _ _ _ _ _).length
      rw [hml]
      rcases (hfi i).1 h with h | h
      · have:=ih.fr i h;omega
      · exact (g.gl.fr i h).2
    · intro j q' hj hq'
      by_cases e:j=k
      · subst e
        rw [hx] at hq'
        simp only [Option.some.injEq] at hq'
        subst hq'
        refine ⟨r.2.e=true,?_⟩
        have hgl:=g.gl
        rw [hl,hrl] at hgl
        refine hgl.congr (fun i c _ _=>(mrk_t _ _ _ _ _ i c).symm) (fun i m _ _=>(mrk_b _ _ _ _ _ i m).symm) (fun i=>?_) (fun i=>?_) Iff.rfl
        · constructor
          · intro h
            have:=hgl.fr i h
            exact ⟨(hfi i).2 (.inr h),this⟩
          · rintro ⟨h,h1,h2⟩
            rcases (hfi i).1 h with h | h
            · have:=ih.fr i h;omega
            · exact h
        · constructor
          · intro h
            have hr:=hgl.lr i h
            have hp:r.1[i]?=some (r.1[i]'(by omega)):=List.getElem?_eq_getElem _
            exact ⟨⟨_,hnew i _ (by omega) (by omega) hp,h.2⟩,hr⟩
          · rintro ⟨⟨p,hp,hlast⟩,h1,h2⟩
            have hp':r.1[i]?=some (r.1[i]'(by omega)):=List.getElem?_eq_getElem _
            rw [hnew i _ (by omega) (by omega) hp'] at hp
            simp only [Option.some.injEq] at hp
            subst hp
            exact ⟨by omega,hlast⟩
      · obtain ⟨e',ge⟩:=ih.gl j q' (by omega) hq'
        have hjk:=off_mono T Q (show j + 1≤k by omega)
        refine ⟨e',ge.congr (fun i c _ h2=>(tP_same (hold i (by omega)) c).symm) (fun i m _ h2=>(bP_same (hold i (by omega)) m).symm) (fun i=>?_) (fun i=>?_) Iff.rfl⟩
        · constructor
          · rintro ⟨h,h1,h2⟩;exact ⟨(hfi i).2 (.inl h),h1,h2⟩
          · rintro ⟨h,h1,h2⟩
            rcases (hfi i).1 h with h | h
            · exact ⟨h,h1,h2⟩
            · have:=(g.gl.fr i h).1;omega
        · constructor
          · rintro ⟨⟨p,hp,hlast⟩,h1,h2⟩;exact ⟨⟨p,by rw [hold i (by omega)];exact hp,hlast⟩,h1,h2⟩
          · rintro ⟨⟨p,hp,hlast⟩,h1,h2⟩
            rw [hold i (by omega)] at hp
            exact ⟨⟨p,hp,hlast⟩,h1,h2⟩
    · intro j i p hj h1 h2 hp
      by_cases e:j=k
      · subst e
        have hp':r.1[i]?=some (r.1[i]'(by omega)):=List.getElem?_eq_getElem _
        have hp2:(mrk s.1.length r.1.length j r.2.l r.1)[i]?=some p:=hp
        rw [hnew i _ (by omega) (by omega) hp'] at hp2
        simp only [Option.some.injEq] at hp2
        subst hp2
        rfl
      · have hjk:=off_mono T Q (show j + 1≤k by omega)
        have hp2:(mrk s.1.length r.1.length k r.2.l r.1)[i]?=some p:=hp
        rw [hold i (by omega)] at hp2
        exact ih.rule j i p (by omega) h1 h2 hp2
end Pr
end Go.Proofs.YtpgcidpghmoibaaGreatDoor

namespace Go.Proofs.YtpgcidpghmoibaaGreatDoor
namespace Pr
open G (PNode Lang Gl Pth)
theorem Pth.last {t:Nat→Int→Prop} {B:Nat→Nat→Prop} {i:Nat} {w:List Int} {e:Nat} (h:Pth t B i w e):∀ u c,w=u ++ [c]→t e c∧((u=[]∧i=e) ∨ ∃ e',Pth t B i u e'∧B e' e):=by
  induction h with
  | @one i c ht =>
    intro u d hw
    cases u with
    | nil =>
      have:c=d:=by simpa using hw
      subst this
      exact ⟨ht,.inl ⟨rfl,rfl⟩⟩
    | cons a u=>simp at hw
  | @cons i j c w e ht hb hp ih =>
    intro u d hw
    cases u with
    | nil =>
      have:w=[]:=by simpa using (List.cons.inj hw).2
      subst this
      exact absurd rfl hp.ne
    | cons a u =>
      simp only [List.cons_append,List.cons.injEq] at hw
      obtain ⟨rfl,hw⟩:=hw
      obtain ⟨h1,h2⟩:=ih u d hw
      refine ⟨h1,.inr ?_⟩
      rcases h2 with ⟨rfl,rfl⟩ | ⟨e',h2,h3⟩
      · exact ⟨i,.one ht,hb⟩
      · exact ⟨e',.cons ht hb h2,h3⟩
def stF (P:List Pl) (f:PB) (us:List Int):Nat→PB
  | 0=>f
  | k + 1=>match us[k]? with | some c=>(wo P (stF P f us k) c).1 | none=>stF P f us k
theorem stF_step {P:List Pl} {f:PB} {us:List Int} {k:Nat} {c:Int} (h:us[k]?=some c):stF P f us (k + 1)=(wo P (stF P f us k) c).1:=by simp [stF,h]
theorem stF_ok {P:List Pl} (hP':OkP P) {f:PB} (hf:f.Ok) (us:List Int):∀ k,(stF P f us k).Ok
  | 0=>hf
  | k + 1=>by
    cases hc:us[k]? with
    | none=>simp only [stF,hc];exact stF_ok hP' hf us k
    | some c=>rw [stF_step hc];exact woTo_ok hP' _ c _
theorem take_succ' {us:List Int} {k:Nat} {c:Int} (h:us[k]?=some c):us.take (k + 1)=us.take k ++ [c]:=by rw [List.take_add_one,h];rfl
theorem stF_iff {P:List Pl} (hP':OkP P) (hl:P.length≤128) {f:PB} (hf:f.Ok) (us:List Int):∀ k,k≤us.length→∀ j,hP (stF P f us k) j ↔ (k=0∧hP f j) ∨ ∃ i e,hP f i∧Pth (tP P) (bP P) i (us.take k) e∧bP P e j
  | 0,_,j=>by
    constructor
    · intro h;exact .inl ⟨rfl,h⟩
    · rintro (⟨_,h⟩ | ⟨i,e,_,h,_⟩)
      · exact h
      · exact absurd (by simp) h.ne
  | k + 1,hk,j=>by
    have hc:us[k]?=some (us[k]'(by omega)):=List.getElem?_eq_getElem _
    generalize us[k]'(by omega)=c at hc
    have ih:=stF_iff hP' hl hf us k (by omega)
    rw [stF_step hc,wo,woTo_state hP' hl _ c P.length (Nat.le_refl _) j,take_succ' hc]
    have lt_of_t:∀ i,tP P i c→i < P.length:=fun i h=>by
      obtain ⟨p,hp,_⟩:=h
      exact (List.getElem?_eq_some_iff.1 hp).1
    constructor
    · rintro ⟨i,h1,h2,h3,h4⟩
      refine .inr ?_
      rcases (ih i).1 h2 with ⟨rfl,h⟩ | ⟨i0,e,g1,g2,g3⟩
      · exact ⟨i,i,h,by simpa using Pth.one h3,h4⟩
      · exact ⟨i0,i,g1,g2.join g3 (.one h3),h4⟩
    · rintro (⟨h,_⟩ | ⟨i,e,h1,h2,h3⟩)
      · omega
      · obtain ⟨h4,h5⟩:=Pth.last h2 _ c rfl
        refine ⟨e,lt_of_t e h4,(ih e).2 ?_,h4,h3⟩
        rcases h5 with ⟨h5,rfl⟩ | ⟨e',h5,h6⟩
        · have:k=0:=by
            have:=congrArg List.length h5
            rw [List.length_take,List.length_nil] at this
            omega
          exact .inl ⟨this,h1⟩
        · exact .inr ⟨i,e',h1,h5,h6⟩
theorem ends_iff {T:List PNode} {Q:List Nat} {P:List Pl} {f:PB} (hM:MaS T Q Q.length P f) (hl:P.length≤128) {us:List Int} {k:Nat} {c:Int} (hc:us[k]?=some c) {j q:Nat} (hj:Q[j]?=some q) :
    (∃ i p,off T Q j≤i∧i < off T Q (j + 1)∧Ends P (stF P f us k) c i p) ↔ G.lang T q (us.take (k + 1)):=by
  have hk:k < us.length:=(List.getElem?_eq_some_iff.1 hc).1
  have hjl:j < Q.length:=(List.getElem?_eq_some_iff.1 hj).1
  obtain ⟨e0,g⟩:=hM.gl j q hjl hj
  have hne:us.take (k + 1) ≠ []:=by
    intro h
    have:=congrArg List.length h
    rw [List.length_take,List.length_nil] at this
    omega
  rw [g.some _ hne,take_succ' hc]
  have hst:=stF_iff hM.ok hl hM.okf us k (by omega)
  constructor
  · rintro ⟨i,p,h1,h2,hp,hs,hin,hlast⟩
    have ht:tP P i c:=⟨p,hp,hin⟩
    rcases (hst i).1 hs with ⟨rfl,h⟩ | ⟨i0,e,g1,g2,g3⟩
    · exact ⟨i,i,⟨h,h1,h2⟩,⟨⟨p,hp,hlast⟩,h1,h2⟩,by simpa using Pth.one ht⟩
    · -- the path stays with one rule
      obtain ⟨j',hj',a1,a2⟩:=off_at T Q i0 Q.length (by rw [← hM.len];exact hM.fr i0 g1)
      obtain ⟨e1,g'⟩:=hM.gl j' (Q[j']'hj') hj' (List.getElem?_eq_getElem hj')
      have hin2:=((g2.join g3 (.one ht)).inside (t':=tP P) (B':=bP P) (fun _ _ _ _ h=>h) (fun x y h1 h2 h=>⟨h,g'.br x y h1 h2 h⟩) a1 a2).2
      have hjj:j'=j:=by
        rcases Nat.lt_trichotomy j' j with e | e | e
        · have:=off_mono T Q (show j' + 1≤j by omega);omega
        · exact e
        · have:=off_mono T Q (show j + 1≤j' by omega);omega
      subst hjj
      exact ⟨i0,i,⟨g1,a1,a2⟩,⟨⟨p,hp,hlast⟩,h1,h2⟩,g2.join g3 (.one ht)⟩
  · rintro ⟨i,e,⟨h1,_,_⟩,⟨⟨p,hp,hlast⟩,h2,h3⟩,hpth⟩
    obtain ⟨h4,h5⟩:=Pth.last hpth _ c rfl
    have hin:G.inV p.x c=true:=by
      obtain ⟨p',hp',h⟩:=h4
      rw [hp] at hp'
      simp only [Option.some.injEq] at hp'
      subst hp'
      exact h
    refine ⟨e,p,h2,h3,hp,(hst e).2 ?_,hin,hlast⟩
    rcases h5 with ⟨h5,rfl⟩ | ⟨e',h5,h6⟩
    · have:k=0:=by
        have:=congrArg List.length h5
        rw [List.length_take,List.length_nil] at this
        omega
      exact .inl ⟨this,h1⟩
    · exact .inr ⟨i,e',h1,h5,h6⟩
def LongN (T:List PNode) (Q:List Nat) (us:List Int) (k n:Nat) (r:Int):Prop:=
  (n=0∧r=-1∧∀ q ∈ Q,∀ m,0 < m→m≤k→¬ G.lang T q (us.take m)) ∨
  (0 < n∧n≤k∧∃ j q:Nat,r=(j:Int)∧Q[j]?=some q∧G.lang T q (us.take n)∧(∀ q' ∈ Q,∀ m,n < m→m≤k→¬ G.lang T q' (us.take m))∧∀ i q':Nat,i < j→Q[i]?=some q'→¬ G.lang T q' (us.take n))
theorem LongN.zero (T:List PNode) (Q:List Nat) (us:List Int):LongN T Q us 0 0 (-1):=.inl ⟨rfl,rfl,fun q _ m h1 h2=>by omega⟩
theorem LongN.all {T:List PNode} {Q:List Nat} {us:List Int} {n:Nat} {r:Int} (h:LongN T Q us us.length n r):G.Long T Q us n r:=h
theorem LongN.step {T:List PNode} {Q:List Nat} {P:List Pl} {f:PB} (hM:MaS T Q Q.length P f) (hl:P.length≤128) {us:List Int} {k n:Nat} {r c:Int} (hc:us[k]?=some c) (h:LongN T Q us k n r) :
    LongN T Q us (k + 1) (if (wo P (stF P f us k) c).2=-1 then n else k + 1) (if (wo P (stF P f us k) c).2=-1 then r else (wo P (stF P f us k) c).2):=by
  have hk:k < us.length:=(List.getElem?_eq_some_iff.1 hc).1
  rcases woTo_rule hl (stF P f us k) c P.length (Nat.le_refl _) with ⟨h1,h2⟩ | ⟨i,p,h1,h2,h3,h4⟩
  · have e:(wo P (stF P f us k) c).2=-1:=h1
    rw [if_pos e,if_pos e]
    have hno:∀ q ∈ Q,¬ G.lang T q (us.take (k + 1)):=by
      intro q hq hA
      obtain ⟨j,hj⟩:=List.getElem?_of_mem hq
      obtain ⟨i,p,_,_,hE⟩:=(ends_iff hM hl hc hj).2 hA
      exact h2 i p (List.getElem?_eq_some_iff.1 hE.1).1 hE
    have up:∀ (q:Nat),q ∈ Q→∀ m,m≤k + 1→(m≤k→¬ G.lang T q (us.take m))→¬ G.lang T q (us.take m):=by
      intro q hq m hm g
      by_cases e:m=k + 1
      · rw [e];exact hno q hq
      · exact g (by omega)
    rcases h with ⟨a1,a2,a3⟩ | ⟨a1,a2,j,q,a3,a4,a5,a6,a7⟩
    · exact .inl ⟨a1,a2,fun q hq m b1 b2=>up q hq m b2 (fun b3=>a3 q hq m b1 b3)⟩
    · exact .inr ⟨a1,by omega,j,q,a3,a4,a5,fun q' hq' m b1 b2=>up q' hq' m b2 (fun b3=>a6 q' hq' m b1 b3),a7⟩
  · have e:(wo P (stF P f us k) c).2=(p.rule:Int):=h3
    have hne:¬ (wo P (stF P f us k) c).2=-1:=by rw [e];omega
    rw [if_neg hne,if_neg hne,e]
    obtain ⟨j,hj,b1,b2⟩:=off_at T Q i Q.length (by rw [← hM.len];exact h1)
    have hr:p.rule=j:=hM.rule j i p hj b1 b2 h2.1
    have hq:Q[j]?=some (Q[j]'hj):=List.getElem?_eq_getElem hj
    refine .inr ⟨by omega,by omega,j,_,by rw [hr],hq,(ends_iff hM hl hc hq).1 ⟨i,p,b1,b2,h2⟩,fun q' _ m c1 c2=>by omega,fun i' q' hi' hq' hA=>?_⟩
    obtain ⟨i2,p2,d1,d2,hE⟩:=(ends_iff hM hl hc hq').2 hA
    have:=off_mono T Q (show i' + 1≤j by omega)
    exact h4 i2 p2 (by omega) hE
theorem LongN.stop {T:List PNode} {Q:List Nat} {P:List Pl} {f:PB} (hM:MaS T Q Q.length P f) (hl:P.length≤128) {us:List Int} {k n:Nat} {r:Int} (hk:k≤us.length) (hz:stF P f us k=PB.zero) (h:LongN T Q us k n r):G.Long T Q us n r:=by
  have hall:∀ d,k + d≤us.length→stF P f us (k + d)=PB.zero∧∀ q ∈ Q,∀ m,k < m→m≤k + d→¬ G.lang T q (us.take m):=by
    intro d
    induction d with
    | zero=>intro _;exact ⟨hz,fun q _ m a b=>by omega⟩
    | succ d ih =>
      intro hd
      obtain ⟨i1,i2⟩:=ih (by omega)
      have hc:us[k + d]?=some (us[k + d]'(by omega)):=List.getElem?_eq_getElem _
      generalize us[k + d]'(by omega)=c at hc
      have hno:∀ j,¬ hP (stF P f us (k + d)) j:=fun j h=>by rw [i1] at h;exact hP_zero j h
      constructor
      · rw [show k + (d + 1)=k + d + 1 by omega,stF_step hc]
        refine PB.zero_of (woTo_ok hM.ok _ c _) (fun i hi=>not_has hi (fun h=>?_))
        obtain ⟨i',_,h2,_⟩:=(woTo_state hM.ok hl (stF P f us (k + d)) c P.length (Nat.le_refl _) i).1 h
        exact hno i' h2
      · intro q hq m a b hA
        by_cases e:m=k + d + 1
        · rw [e] at hA
          obtain ⟨j,hj⟩:=List.getElem?_of_mem hq
          obtain ⟨i,p,_,_,hE⟩:=(ends_iff hM hl hc hj).2 hA
          exact hno i hE.2.1
        · exact i2 q hq m a (by omega) hA
  have hfin:=(hall (us.length - k) (by omega)).2
  rw [show k + (us.length - k)=us.length by omega] at hfin
  rcases h with ⟨a1,a2,a3⟩ | ⟨a1,a2,j,q,a3,a4,a5,a6,a7⟩
  · refine .inl ⟨a1,a2,fun q hq m b1 b2=>?_⟩
    rcases Nat.lt_or_ge k m with e | e
    · exact hfin q hq m e b2
    · exact a3 q hq m b1 e
  · refine .inr ⟨a1,by omega,j,q,a3,a4,a5,fun q' hq' m b1 b2=>?_,a7⟩
    rcases Nat.lt_or_ge k m with e | e
    · exact hfin q' hq' m e b2
    · exact a6 q' hq' m b1 e
end Pr
end Go.Proofs.YtpgcidpghmoibaaGreatDoor

namespace Go.Proofs.YtpgcidpghmoibaaGreatDoor
namespace Pr
open Go.RowKit
open Rf (Kept Lies)
open G (PNode)
structure UAt (w:World) (pu:Option Addr) (us:List Int) (H:Nat):Prop where
  at':∀ (i:Nat) (c:Int),us[i]?=some c→∃ g off,pu=some ⟨g,off,none⟩∧g < H∧w.cell? ⟨g,off + i,none⟩=some (.int .i32 c)
theorem eqBits (a b c d:Int) (w:World):(Op.equalIn 10000 153 (.agg #[.int .u64 a,.int .u64 b]) (.agg #[.int .u64 c,.int .u64 d])).run Tryz.prog w=.ok (a == c && b == d) w:=by
  have u3:=Tryz.underlying151
  have a3:=Tryz.isAgg151
  have z3:=Tryz.sizeOf151
  rw [show (10000:Nat)=9999 + 1 from rfl,Op.equalIn]
  simp only [Sem.run_bind,run_underlying Tryz.underlying153,Result.andThen_ok]
  simp only [Std.Legacy.Range.forIn_eq_forIn_range',Std.Legacy.Range.size,Nat.sub_zero,Nat.add_sub_cancel,Nat.div_one,List.range'_succ,List.range'_zero,List.forIn_cons,List.forIn_nil]
  go_simp
  by_cases h1:a=c <;> by_cases h2:b=d <;> simp [h1,h2]
set_option maxRecDepth 100000 in
set_option maxHeartbeats 1000000 in
theorem mrun_any (w:World) (I:Nat→Prop) (m:Nat) (v:Value) (P:List Pl) (V:List Value) (f:PB) (hM:MaAt w I m v P V f) (hI:∀ k,I k→k < w.heap.size) :
    Calls Tryz.prog 61 #[pv m] w fun e w'=>∃ b bm,e=.returned (pv b)∧RunAt w' I b m bm v P V f∧Memo w' bm 0 P∧Below w.heap.size w w'∧w.heap.size≤bm:=by
  have hmm:=@run_makeMap Tryz.prog
  go_enter Tryz.func61,Tryz.ntmps61
  go_wp2
  go_ret
  have hml:=lt_of_block hM.blk
  have hb:Below w.heap.size w ((w.alloc (.map #[] 0)).alloc (.cells #[pv m,.map (some w.heap.size)] 166)):=((Below.refl _ w).alloc (Nat.le_refl _) _).alloc (by simp) _
  have hbk:=heap_alloc_new (w.alloc (.map #[] 0)) (.cells #[pv m,.map (some w.heap.size)] 166)
  rw [show (w.alloc (.map #[] 0)).heap.size=w.heap.size + 1 by simp] at hbk
  refine ⟨w.heap.size + 1,w.heap.size,rfl,⟨hbk,hM.below hI hb,fun k e=>Nat.lt_of_lt_of_le (hI k e) hb.size,?_⟩,(Memo.made w P).same (Below.heap_alloc _ _ _ (by simp)),hb,Nat.le_refl _⟩
  rintro k (rfl | rfl | e | e)
  · omega
  · omega
  · have:=(hM.row.lt k e).2;omega
  · have:=hI k e;omega
structure LInvG (w:World) (T:List PNode) (Q:List Nat) (P:List Pl) (f:PB) (us:List Int) (bm n0 k len:Nat) (r:Int) (wr:World):Prop where
  kp:Kept (fun k=>k ≠ bm) w wr
  me:Memo wr bm (n0 + k) P
  st:wr.heap[w.heap.size]?=some (.cells #[.int .u64 (stF P f us k).a,.int .u64 (stF P f us k).c] 153 (0,0))
  lo:LongN T Q us k len r
set_option maxRecDepth 100000 in
set_option maxHeartbeats 1000000 in
theorem plong_any (w:World) (I:Nat→Prop) (b m bm n0:Nat) (v:Value) (T:List PNode) (Q:List Nat) (P:List Pl) (V:List Value) (f:PB) (hR:RunAt w I b m bm v P V f) (hMe:Memo w bm n0 P) (hn:P.length≤100) (hS:MaS T Q Q.length P f)
    (us:List Int) (hul:us.length≤100000) (hn0:n0≤10000000) (hus:∀ c ∈ us,-2147483648≤c∧c≤2147483647) (pu:Option Addr) (cu:Nat) (hU:UAt w pu us w.heap.size) (hbu:∀ g off,pu=some ⟨g,off,none⟩→g ≠ bm) :
    Calls Tryz.prog 62 #[pv b,.slice pu us.length cu] w fun e w'=>(∃ (n:Nat) (r:Int),e=.returned (.tuple #[.int .i64 (n:Int),.int .i64 r])∧G.Long T Q us n r)∧Memo w' bm (n0 + us.length) P∧Kept (fun k=>k ≠ bm) w w':=by
  have r0:=Rf.cell_blk hR.blk 0 (pv m) rfl
  have m1:=Rf.cell_blk hR.ma.blk 1 (.int .u64 f.a) rfl
  have m2:=Rf.cell_blk hR.ma.blk 2 (.int .u64 f.c) rfl
  have hbl:=lt_of_block hR.blk
  have hml:=lt_of_block hR.ma.blk
  have hnb:=hMe.lt
  have hb1:Below w.heap.size w (w.alloc (.cells #[.int .u64 f.a,.int .u64 f.c] 153)):=(Below.refl _ w).alloc (Nat.le_refl _) _
  have h0:LInvG w T Q P f us bm n0 0 0 (-1) (w.alloc (.cells #[.int .u64 f.a,.int .u64 f.c] 153)):=⟨Kept.of_below hb1,hMe.below hb1,heap_alloc_new w _,LongN.zero _ _ _⟩
  have H0:Hid _:=h0
  clear h0 hb1
  go_enter Tryz.func62,Tryz.ntmps62
  go_wp2
  clear r0 m1 m2
  go_loopw [6,7,9,10,11,21] (fun vl vr _ _ _ vi wr=>∃ (k len:Nat) (r:Int),vi=.int .i64 k∧vl=.int .i64 len∧vr=.int .i64 r∧k≤us.length∧LInvG w T Q P f us bm n0 k len r wr) (fun _ _ _ _ _ vi _=>us.length - (intOf vi).toNat)
  case atStart=>exact ⟨0,0,-1,rfl,rfl,rfl,Nat.zero_le _,H0.out⟩
  case round =>
    obtain ⟨k,len,r,rfl,rfl,rfl,hk,hL⟩:=hrel
    by_cases hlt:k < us.length
    · have hc:us[k]?=some (us[k]'hlt):=List.getElem?_eq_getElem hlt
      generalize us[k]'hlt=c at hc
      have hcb:=hus c (List.mem_of_getElem? hc)
      obtain ⟨gu,offu,hpu,hgu,cu0⟩:=hU.at' k c hc
      have hgb:=hbu gu offu hpu
      subst hpu
      have cur:wr.cell? ⟨gu,offu + k,none⟩=some (.int .i32 c):=(cell_same (a:=⟨gu,offu + k,none⟩) (hL.kp.block gu hgu hgb)).trans cu0
      have s0:=Rf.cell_blk hL.st 0 (.int .u64 (stF P f us k).a) rfl
      have s1:=Rf.cell_blk hL.st 1 (.int .u64 (stF P f us k).c) rfl
      have hsl:=lt_of_block hL.st
      by_cases hz:stF P f us k=PB.zero
      · have HL:Hid _:=LongN.stop hS (by omega) hk hz hL.lo
        have HM:Hid _:=And.intro (hL.me.mono (show n0 + k≤n0 + us.length by omega)) hL.kp
        rw [hz] at s0 s1
        have s0':wr.cell? ⟨w.heap.size,0,none⟩=some (.int .u64 0):=s0
        have s1':wr.cell? ⟨w.heap.size,1,none⟩=some (.int .u64 0):=s1
        clear s0 s1 hz
        have heq:=eqBits 0 0 0 0 wr
        go_wp2
        go_ret2
        exact ⟨⟨len,r,rfl,HL.out⟩,HM.out.1,HM.out.2⟩
      · have hR1:=hR.same hL.kp
        have hok:(stF P f us k).Ok:=stF_ok hS.ok hS.okf us k
        have hTk:=rtake_any wr I b m bm (n0 + k) v P V f hR1 hL.me hn (by omega) (stF P f us k) hok c hcb
        have hor:¬ ((stF P f us k).a=0∧(stF P f us k).c=0):=fun h=>hz (by cases hq:stF P f us k;rw [hq] at h;simp at h;simp [PB.zero,h.1,h.2])
        have hst:=hL.lo.step hS (by omega) hc
        have hstep:=stF_step (P:=P) (f:=f) hc
        have hst0:=hL.st
        have HL:Hid _:=And.intro hL (And.intro hst hstep)
        have HS0:Hid _:=hst0
        clear hL hst hstep hz hok hst0
        generalize stF P f us k=x at *
        have heq:=eqBits x.a x.c 0 0 wr
        have hef:((x.a == 0) && (x.c == 0))=false:=by
          cases h1:(x.a == 0) with
          | false=>rfl
          | true =>
            cases h2:(x.c == 0) with
            | false=>rfl
            | true=>exact absurd ⟨by simpa using h1,by simpa using h2⟩ hor
        rw [hef] at heq
        clear hef hor
        by_cases hru:(wo P x c).2=-1
        · have hrb:((wo P x c).2 != -1)=false:=by simp [hru]
          have hLn:=HL.out.2.1
          rw [if_pos hru,if_pos hru] at hLn
          have HN:Hid _:=hLn
          clear hLn hru
          go_wp2_with (go_at_call 89;refine hTk.mono ?_;rintro e w2 ⟨rfl,hMe2,hk2⟩;have hst2:=(hk2.block _ hsl (show w.heap.size ≠ bm by omega)).trans HS0.out;have t0:=Rf.cell_blk hst2 0 (.int .u64 x.a) rfl;have t1:=Rf.cell_blk hst2 1 (.int .u64 x.c) rfl;have tf:=fun o=>Rf.free_blk hst2 o;have hsl2:=lt_of_block hst2)
          have hsz4:((w2.setCell ⟨w.heap.size,0,none⟩ (.int .u64 (wo P x c).1.a)).setCell ⟨w.heap.size,1,none⟩ (.int .u64 (wo P x c).1.c)).heap.size=w2.heap.size:=by simp [World.setCell]
          have hmt2:=hMe2.lt
          have hme4:Memo (((w2.setCell ⟨w.heap.size,0,none⟩ (.int .u64 (wo P x c).1.a)).setCell ⟨w.heap.size,1,none⟩ (.int .u64 (wo P x c).1.c)).alloc (.cells #[.int .u64 (wo P x c).1.a,.int .u64 (wo P x c).1.c,.int .i64 (wo P x c).2] 168)) bm (n0 + k + 1) P:=hMe2.same ((Below.heap_alloc _ _ _ (by rw [hsz4];exact hmt2)).trans ((Rf.blk_ne _ (by omega)).trans (Rf.blk_ne _ (by omega))))
          have hkp4:Kept (fun k=>k ≠ bm) w (((w2.setCell ⟨w.heap.size,0,none⟩ (.int .u64 (wo P x c).1.a)).setCell ⟨w.heap.size,1,none⟩ (.int .u64 (wo P x c).1.c)).alloc (.cells #[.int .u64 (wo P x c).1.a,.int .u64 (wo P x c).1.c,.int .i64 (wo P x c).2] 168)):=(((HL.out.1.kp.trans hk2).setNew (Nat.le_refl _) _).setNew (Nat.le_refl _) _).alloc _
          have hst4:(((w2.setCell ⟨w.heap.size,0,none⟩ (.int .u64 (wo P x c).1.a)).setCell ⟨w.heap.size,1,none⟩ (.int .u64 (wo P x c).1.c)).alloc (.cells #[.int .u64 (wo P x c).1.a,.int .u64 (wo P x c).1.c,.int .i64 (wo P x c).2] 168)).heap[w.heap.size]?=some (.cells #[.int .u64 (wo P x c).1.a,.int .u64 (wo P x c).1.c] 153 (0,0)):=(Below.heap_alloc _ _ _ (by rw [hsz4];exact hsl2)).trans (Rf.blk_set (Rf.blk_set hst2 0 _) 1 _)
          refine ⟨⟨k + 1,len,r,by go_num,rfl,rfl,by omega,⟨hkp4,hme4,by rw [HL.out.2.2];exact hst4,HN.out⟩⟩,by simp [intOf];omega⟩
        · have hrb:((wo P x c).2 != -1)=true:=by simp [hru]
          have hLn:=HL.out.2.1
          rw [if_neg hru,if_neg hru] at hLn
          have HN:Hid _:=hLn
          clear hLn hru
          go_wp2_with (go_at_call 89;refine hTk.mono ?_;rintro e w2 ⟨rfl,hMe2,hk2⟩;have hst2:=(hk2.block _ hsl (show w.heap.size ≠ bm by omega)).trans HS0.out;have t0:=Rf.cell_blk hst2 0 (.int .u64 x.a) rfl;have t1:=Rf.cell_blk hst2 1 (.int .u64 x.c) rfl;have tf:=fun o=>Rf.free_blk hst2 o;have hsl2:=lt_of_block hst2)
          go_region
          all_goals
            go_wp2
            have hsz4:((w2.setCell ⟨w.heap.size,0,none⟩ (.int .u64 (wo P x c).1.a)).setCell ⟨w.heap.size,1,none⟩ (.int .u64 (wo P x c).1.c)).heap.size=w2.heap.size:=by simp [World.setCell]
            have hmt2:=hMe2.lt
            have hme4:Memo (((w2.setCell ⟨w.heap.size,0,none⟩ (.int .u64 (wo P x c).1.a)).setCell ⟨w.heap.size,1,none⟩ (.int .u64 (wo P x c).1.c)).alloc (.cells #[.int .u64 (wo P x c).1.a,.int .u64 (wo P x c).1.c,.int .i64 (wo P x c).2] 168)) bm (n0 + k + 1) P:=hMe2.same ((Below.heap_alloc _ _ _ (by rw [hsz4];exact hmt2)).trans ((Rf.blk_ne _ (by omega)).trans (Rf.blk_ne _ (by omega))))
            have hkp4:Kept (fun k=>k ≠ bm) w (((w2.setCell ⟨w.heap.size,0,none⟩ (.int .u64 (wo P x c).1.a)).setCell ⟨w.heap.size,1,none⟩ (.int .u64 (wo P x c).1.c)).alloc (.cells #[.int .u64 (wo P x c).1.a,.int .u64 (wo P x c).1.c,.int .i64 (wo P x c).2] 168)):=(((HL.out.1.kp.trans hk2).setNew (Nat.le_refl _) _).setNew (Nat.le_refl _) _).alloc _
            have hst4:(((w2.setCell ⟨w.heap.size,0,none⟩ (.int .u64 (wo P x c).1.a)).setCell ⟨w.heap.size,1,none⟩ (.int .u64 (wo P x c).1.c)).alloc (.cells #[.int .u64 (wo P x c).1.a,.int .u64 (wo P x c).1.c,.int .i64 (wo P x c).2] 168)).heap[w.heap.size]?=some (.cells #[.int .u64 (wo P x c).1.a,.int .u64 (wo P x c).1.c] 153 (0,0)):=(Below.heap_alloc _ _ _ (by rw [hsz4];exact hsl2)).trans (Rf.blk_set (Rf.blk_set hst2 0 _) 1 _)
            exact ⟨⟨k + 1,k + 1,(wo P x c).2,by go_num,by go_num,rfl,by omega,⟨hkp4.drew,hme4.same rfl,by rw [HL.out.2.2];exact hst4,HN.out⟩⟩,by simp [intOf];omega⟩
    · have e:k=us.length:=by omega
      subst e
      go_wp2
      go_ret2
      exact ⟨⟨len,r,rfl,hL.lo.all⟩,hL.me,hL.kp⟩
end Pr
end Go.Proofs.YtpgcidpghmoibaaGreatDoor
