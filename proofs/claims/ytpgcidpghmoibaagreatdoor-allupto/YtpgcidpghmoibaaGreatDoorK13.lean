/-
  THE REFERENCE's RULES AS STATES, as memory
  THE REFERENCE's RULES AS STATES
  THE REFERENCE's READER, as memory
  THE REFERENCE's RULES AS STATES, as memory
-/
import Derived.Test.YtpgcidpghmoibaaGreatDoorK08
import Derived.Test.YtpgcidpghmoibaaGreatDoorK12
import Derived.Test.YtpgcidpghmoibaaGreatDoorK04
namespace Go.Proofs.YtpgcidpghmoibaaGreatDoor
namespace Rf
open Go.RowKit
open G (PNode)
theorem scells_cons (x:PState) (v:Value) (L:List PState) (W:List Value):scells (x :: L) (v :: W)=.int .i64 x.node :: v :: scells L W:=by simp [scells,scell]
theorem scells_set (nx:List Nat) (nv:Value):∀ (L:List PState) (W:List Value) (k:Nat) (x:PState),W.length=L.length→L[k]?=some x→scells (L.set k ⟨x.node,nx⟩) (W.set k nv)=(scells L W).set (k * 2 + 1) nv
  | [],_,k,x,_,h=>by simp at h
  | y :: L,[],k,x,hl,_=>by simp at hl
  | y :: L,v :: W,0,x,_,h=>by
    simp only [List.getElem?_cons_zero,Option.some.injEq] at h
    subst h
    simp only [List.set_cons_zero,scells_cons]
    rfl
  | y :: L,v :: W,k + 1,x,hl,h=>by
    simp only [List.getElem?_cons_succ] at h
    have ih:=scells_set nx nv L W k x (by simpa using hl) h
    simp only [List.set_cons_succ,scells_cons,ih]
    have e:(k + 1) * 2=(k * 2 + 1) + 1:=by omega
    rw [e]
    rfl
theorem set_fin {w:World} {b:Nat} {S M:Nat→Prop} {T:List PNode} {Q:List Nat} {L:List PState} {B F:List Nat} {cs:Array Value} {vN vR vB vF:Value} {V:List (Value × Value)} {W:List Value} {g cap:Nat} (A:SaAt w b T Q L B F cs vN vR (.slice (some ⟨g,0,none⟩) L.length cap) vB vF V W) (hcs:cs.size=11)
    (hf:∀ k,FootS b vN vR (.slice (some ⟨g,0,none⟩) L.length cap) vB vF V W k→S k) (hS:∀ k,S k→k < w.heap.size) (hM:∀ k,MutS b (.slice (some ⟨g,0,none⟩) L.length cap) vB vF k→M k) (hMS:∀ k,M k→S k) (hIM:∀ k,ImmS vN vR V W k→¬ M k)
    (k0:Nat) (x:PState) (hx:L[k0]?=some x) (nx:List Nat) (nv:Value) (hnv:w.ownsRow 0 3 1 nv nx.length (ints nx)) (hnS:∀ j,nv.ownBlock=some j→¬ S j) :
    ∃ S',Sa (w.setCell ⟨g,k0 * 2 + 1,none⟩ nv) b S' M T Q (L.set k0 ⟨x.node,nx⟩) B F∧Evo w M (w.setCell ⟨g,k0 * 2 + 1,none⟩ nv) M∧∀ j,S' j→S j ∨ nv.ownBlock=some j:=by
  have hgS:S g:=hf g (.inr (.inl rfl))
  have hgM:M g:=hM g (.inr (.inl rfl))
  have hst:=(A.oS.stored (k0 * 2 + 1) nv).1
  have hne:∀ k,k ≠ g→(w.setCell ⟨g,k0 * 2 + 1,none⟩ nv).heap[k]?=w.heap[k]?:=fun k hk=>blk_ne nv hk
  have hgb:b ≠ g:=fun e=>A.nbS (by rw [e];rfl)
  have him:∀ k,ImmS vN vR V W k→k ≠ g:=fun k hk e=>(A.imm k hk).2.1 (by rw [e];rfl)
  have hnvg:∀ k,nv.ownBlock=some k→k ≠ g:=fun k e e2=>hnS k e (e2 ▸ hgS)
  have him2:∀ k,ImmS vN vR V (W.set k0 nv) k→ImmS vN vR V W k ∨ nv.ownBlock=some k:=by
    rintro k (e | e | e | ⟨u,hu,e⟩)
    · exact .inl (.inl e)
    · exact .inl (.inr (.inl e))
    · exact .inl (.inr (.inr (.inl e)))
    · rcases List.mem_or_eq_of_mem_set hu with hu | hu
      · exact .inl (.inr (.inr (.inr ⟨u,hu,e⟩)))
      · subst hu
        exact .inr e
  refine ⟨fun j=>S j ∨ nv.ownBlock=some j,⟨cs,vN,vR,.slice (some ⟨g,0,none⟩) (L.set k0 ⟨x.node,nx⟩).length cap,vB,vF,V,W.set k0 nv,⟨?_,?_,A.c9,A.c10,by simp [A.len],?_,?_,?_,?_,?_,A.nbB,A.nbF,?_,?_,A.apBF,?_⟩,hcs,?_,?_,?_,fun k h=>.inl (hMS k h),?_⟩,⟨(Kept.refl _ _).setCell (fun hn=>hn hgM) _,fun _ h=>.inl h⟩,fun j h=>h⟩
  · exact ro_same A.ro (by rw [hne b hgb];exact A.ro.blk) A.ro.c5 A.ro.c7 (fun k e=>hne k (him k (by
      rcases e with e | e | e
      · exact .inl e
      · exact .inr (.inl e)
      · exact .inr (.inr (.inl e)))))
  · rw [List.length_set];exact A.c8
  · rw [scells_set nx nv L W k0 x A.len hx,List.length_set]
    exact hst
  · exact own_same A.oB (fun k e=>hne k (fun e2=>A.apSB k (by rw [e2];rfl) e))
  · exact own_same A.oF (fun k e=>hne k (fun e2=>A.apSF k (by rw [e2];rfl) e))
  · intro k y u hy hu
    by_cases hk:k0=k
    · subst hk
      have hl:k0 < L.length:=(List.getElem?_eq_some_iff.1 hx).1
      rw [List.getElem?_set_self hl] at hy
      rw [List.getElem?_set_self (by rw [A.len];exact hl)] at hu
      simp only [Option.some.injEq] at hy hu
      subst hy hu
      exact own_same hnv (fun j e=>hne j (hnvg j e))
    · rw [List.getElem?_set_ne hk] at hy hu
      exact own_same (A.oW k y u hy hu) (fun j e=>hne j (him j (.inr (.inr (.inr ⟨u,List.mem_of_getElem? hu,e⟩)))))
  · exact A.nbS
  · exact A.apSB
  · exact A.apSF
  · intro k e
    rcases him2 k e with e | e
    · exact A.imm k e
    · have hn:¬ S k:=hnS k e
      exact ⟨fun e2=>hn (hf k (.inl e2)),fun e2=>hn (hf k (.inr (.inl e2))),fun e2=>hn (hf k (.inr (.inr (.inl e2)))),fun e2=>hn (hf k (.inr (.inr (.inr (.inl e2)))))⟩
  · rintro k (e | e | e | e | e)
    · exact .inl (hf k (.inl e))
    · exact .inl (hf k (.inr (.inl e)))
    · exact .inl (hf k (.inr (.inr (.inl e))))
    · exact .inl (hf k (.inr (.inr (.inr (.inl e)))))
    · rcases him2 k e with e | e
      · exact .inl (hf k (.inr (.inr (.inr (.inr e)))))
      · exact .inr e
  · have e:(w.setCell ⟨g,k0 * 2 + 1,none⟩ nv).heap.size=w.heap.size:=by simp [World.setCell]
    rw [e]
    rintro k (h | h)
    · exact hS k h
    · exact (hnv.lt k h).2
  · exact fun k h=>hM k h
  · intro k e h
    rcases him2 k e with e | e
    · exact hIM k e h
    · exact hnS k e (hMS k h)
end Rf
end Go.Proofs.YtpgcidpghmoibaaGreatDoor

namespace Go.Proofs.YtpgcidpghmoibaaGreatDoor
namespace Rf
open Go.RowKit
open G (PNode)
set_option maxRecDepth 100000 in
set_option maxHeartbeats 2000000 in
theorem made_loop (b:Nat) (T:List PNode) (Q:List Nat) (n:Nat) (x:PNode) (hT:G.WF T) (htl:T.length≤100000) (hn:n < T.length) (hx:T[G.bare T n]?=some x) (hrp:G.reps x=true) (k q:Nat) (hq:G.rep T x.kind (G.bare T n)=(k,q)) (hk63:k ≠ 63) (hIH:∀ m,m < n→MadeAt b T Q m):MadeAt b T Q n:=by
  intro w S M L B F to hS ht hbd
  obtain ⟨cs,vN,vR,V,hRo,_⟩:=hS.ro
  have hN:=bare_any w b T Q n cs vN vR V hRo hT htl hn
  have hble:=G.bare_le hT n
  have hqlt:q < G.bare T n:=by have:=rep_lt (k:=x.kind) hT hx hrp;rw [hq] at this;exact this
  have hplq:G.pl T q=G.pl T n:=by
    have:=(G.pl_rep hT (G.bare T n) x.kind (by omega)).1
    rw [hq,G.pl_bare hT n hn] at this
    exact this
  have HM:Hid (∀ p L',Md T (.node q) L.length (L ++ [⟨-1,[]⟩]) (.one p) L'→Md T (.node n) to L (.one (if k=43 then p else L.length)) (L'.set L.length ⟨-1,[p,to]⟩)):=fun p L' h=>Md.loop hx hrp hq hk63 h
  have hkb:((k:Int) == 63)=false:=by simp;omega
  obtain ⟨hk1,hk2,hk3⟩:((x.kind:Int) == 115)=false∧((x.kind:Int) == 113)=false∧((x.kind:Int) == 99)=false:=by
    have h:=hrp
    simp only [G.reps,Bool.or_eq_true,decide_eq_true_eq] at h
    exact ⟨by simp;omega,by simp;omega,by simp;omega⟩
  obtain ⟨g,cap,hv,_,_⟩:=hRo.oN.form (by omega)
  subst hv
  have hgl:g < w.heap.size:=(hRo.oN.lt g rfl).2
  obtain ⟨ra1,rc1,pa1,pc1,hnd1⟩:=hRo.node hx
  have hmT:G.bare T n < T.length:=(List.getElem?_eq_some_iff.1 hx).1
  generalize G.bare T n=m at *
  have hcase:(((k:Int) == 43)=true∧Hid (k=43)) ∨ (((k:Int) == 43)=false∧Hid (k ≠ 43)):=by
    by_cases h:k=43
    · exact .inl ⟨by simp;omega,h⟩
    · exact .inr ⟨by simp;omega,h⟩
  clear hk63
  rcases hcase with ⟨hk43,HC⟩ | ⟨hk43,HC⟩
  all_goals
    go_enter Tryz.func114,Tryz.ntmps114
    go_wp2_with (first
      | (go_at_call 114
         refine hNq.mono ?_
         rintro e w4 ⟨r4,L4,S4,M4,rfl,hmd,hS4,hE4,hn4⟩
         have hf:=hmd.fine hT (by show q < T.length;omega) (by simp)
         have hb4:L4.length + (MT.node q).sl T≤(L ++ [(⟨-1,[]⟩:PState)]).length + 4 * G.pl T q:=hf.2.2.1
         have hl4:=hf.1
         simp only [List.length_append,List.length_singleton] at hl4 hb4
         have hx4:L4[L.length]?=some ⟨-1,[]⟩:=(hf.2.2.2 L.length (by simp)).trans (by simp)
         obtain ⟨cs4,vN4,vR4,vS4,vB4,vF4,V4,W4,A4,hcs4,hf4,hlt4,hM4,hMS4,hIM4⟩:=id hS4
         obtain ⟨g4,cap4,hv4,_,_⟩:=A4.oS.form (by omega)
         subst hv4
         have c8:=cell_blk A4.ro.blk 8 _ A4.c8
         have hg4l:g4 < w4.heap.size:=(A4.oS.lt g4 rfl).2
         have hwl:L.length < W4.length:=by rw [A4.len];omega
         have csx:w4.cell? ⟨g4,L.length * 2 + 1,none⟩=some (W4[L.length]'hwl):=own_cell' A4.oS (L.length * 2 + 1) (by
           have:=flat_get (fun x:PState × Value=>scell x.1 x.2) 2 (fun _=>rfl) (L4.zip W4) L.length 1 (⟨-1,[]⟩,W4[L.length]'hwl) (List.getElem?_zip_eq_some.2 ⟨hx4,List.getElem?_eq_getElem hwl⟩) (by omega)
           exact this)
         have fsx:=A4.oS.frozenAt (L.length * 2 + 1)
         have hrow:=own_new w4 0 3 1 2 #[.int .i64 (r4:Int),.int .i64 (to:Int)] (Nat.zero_le _) rfl (by unfold maxLen;omega)
         have hba:Below w4.heap.size w4 (w4.alloc (.cells #[.int .i64 (r4:Int),.int .i64 (to:Int)] 3)):=(Below.refl _ _).alloc (Nat.le_refl _) _
         have hfin:=set_fin (A4.same (fun k hk2=>hba.block k (hlt4 k (hf4 k hk2)))) hcs4 hf4 (fun k hk2=>Nat.lt_of_lt_of_le (hlt4 k hk2) hba.size) hM4 hMS4 hIM4 L.length ⟨-1,[]⟩ hx4 [r4,to] (.slice (some ⟨w4.heap.size,0,none⟩) 2 2) hrow (fun j e h2=>by have:=hlt4 j h2;simp [Value.ownBlock] at e;omega)
         have HX:Hid _:=And.intro hfin (And.intro (HM.out _ _ hmd) (And.intro hE4 (And.intro hn4 hba)))
         have hL4b:L4.length≤30000:=by omega
         generalize W4[L.length]'hwl=uold at csx
         clear hfin hmd hf hb4 hx4 hrow hE4 hn4 hba hS4 A4 hf4 hM4 hMS4 hIM4)
      | (go_at_call 113
         refine hSt.mono ?_
         rintro e w3 ⟨rfl,S3,M3,hS3,hk3',hn3⟩
         have hNq:=hIH q (by omega) w3 S3 M3 (L ++ [⟨-1,[]⟩]) B F L.length hS3 (by simp) (by simp;omega))
      | (go_at_call 137
         refine hNr.mono ?_
         rw [hq]
         rintro e w2 ⟨rfl,hb2⟩
         have hbw:=hbz.trans (hb2.mono hbz.size)
         have hSt:=state_any w2 b S M T Q L B F (hS.below hbw) ⟨-1,[]⟩ none 0 (World.ownsRow_nil _ _ _ _) (fun j e=>none_own j _ e) (by omega))
      | (go_at_call 136
         refine hN.mono ?_
         rintro e w1 ⟨rfl,hb1⟩
         have hRo1:=hRo.below hb1
         have c5:=cell_blk hRo1.blk 5 _ hRo1.c5
         obtain ⟨d0,d1,d2,d3,d4,op1⟩:=hnd1.below hb1 hgl
         have hbz:Below w.heap.size w (w1.alloc (.cells #[.int .u8 (x.kind:Int),.slice ra1 x.ranges.length rc1,.bool x.other,.slice pa1 x.parts.length pc1,.int .i64 (x.size:Int)] 118)):=hb1.alloc hb1.size _
         have hNr:=rep_any _ b T Q m x cs _ vR V (hRo.below hbz) hT htl hx hrp))
    go_ret
    obtain ⟨⟨S6,hS6,hE6,hn6⟩,hmd,hE4,hn4,hba⟩:=HX.out
    rw [World.setCell_alloc_past _ _ _ _ hg4l] at hS6 hE6
    refine ⟨_,_,S6,M4,?_,hmd,hS6,((((Evo.refl w M).of_below hbw).trans hk3').trans hE4).of_below hba |>.trans hE6,fun k hk=>?_⟩
    · have hc:=HC.out
      first
        | (rw [if_pos hc];rfl)
        | (rw [if_neg hc];rfl)
    · have hz1:=hbw.size
      have hz2:=hk3'.kept.size
      have hz3:=hE4.kept.size
      rcases hn6 k hk with h | h
      · rcases hn4 k h with h | h
        · rcases hn3 k h with h | h | h
          · exact .inl h
          · exact none_own k _ h
          · exact .inr (by omega)
        · exact .inr (by omega)
      · simp [Value.ownBlock] at h
        exact .inr (by omega)
theorem made_any (b:Nat) (T:List PNode) (Q:List Nat) (hT:G.WF T) (htl:T.length≤100000):∀ n,n < T.length→MadeAt b T Q n:=by
  intro n
  induction n using Nat.strongRecOn with
  | ind n ih =>
    intro hn
    have hIH:∀ m,m < n→MadeAt b T Q m:=fun m hm=>ih m hm (by omega)
    obtain ⟨x,hx,hl,_⟩:=G.bare_spec hT n hn
    rcases (hT _ x hx).kind with ⟨k,_⟩ | ⟨k,_⟩ | ⟨k,_⟩
    · exact made_set b T Q n x hT htl hn hx k
    · rcases k with k | k
      · exact made_seq b T Q n x hT htl hn hx k hIH
      · exact made_alt b T Q n x hT htl hn hx k hIH
    · have hrp:G.reps x=true:=by simp [G.reps];omega
      by_cases h63:(G.rep T x.kind (G.bare T n)).1=63
      · exact made_opt b T Q n x hT htl hn hx hrp (G.rep T x.kind (G.bare T n)).2 (by rw [← h63]) hIH
      · exact made_loop b T Q n x hT htl hn hx hrp _ _ rfl h63 hIH
end Rf
end Go.Proofs.YtpgcidpghmoibaaGreatDoor

namespace Go.Proofs.YtpgcidpghmoibaaGreatDoor
namespace Rf
open Go.RowKit
open G (PNode)
theorem RdAt.grow {w X w2:World} {b:Nat} {s:ByteArray} {st st':St} {vN vM vR u u' vM' vR':Value} {V:List (Value × Value)} (h:RdAt w b s st vN vM vR V) (o:Nat)
    (hX:Kept (fun _=>True) w X) (hg:X.grownBy w2 u.ownBlock) (hat:Lies w u u')
    (hc:(rcellsOf s st vN vM vR).setIfInBounds o u'=rcellsOf s st' vN vM' vR') (hT:st'.T=st.T)
    (hub:u.ownBlock ≠ some b) (huN:Apart u vN) (huV:∀ x ∈ V,∀ k,x.1.ownBlock=some k ∨ x.2.ownBlock=some k→u.ownBlock ≠ some k)
    (hM:(w2.setCell ⟨b,o,none⟩ u').ownsRow 0 191 2 vM' st'.env.length (ecells st'.env)) (hR:(w2.setCell ⟨b,o,none⟩ u').ownsRow 0 3 1 vR' st'.rules.length (ints st'.rules))
    (hMl:vM'=vM ∨ vM'=u'∧vM=u) (hRl:vR'=vR ∨ vR'=u'∧vR=u) (hMR:Apart vM' vR') :
    RdAt (w2.setCell ⟨b,o,none⟩ u') b s st' vN vM' vR' V:=by
  have hb:=lt_of_block h.blk
  have h2:∀ k,k < w.heap.size→u.ownBlock ≠ some k→w2.heap[k]?=w.heap[k]?:=fun k hk hn=>(hg.block k (Nat.lt_of_lt_of_le hk hX.size) (fun e=>hn e.symm)).trans (hX.block k hk trivial)
  have h3:∀ k,k < w.heap.size→u.ownBlock ≠ some k→k ≠ b→(w2.setCell ⟨b,o,none⟩ u').heap[k]?=w.heap[k]?:=fun k hk hn hne=>(blk_ne u' hne).trans (h2 k hk hn)
  have new:∀ k,k < w.heap.size→u.ownBlock ≠ some k→u'.ownBlock ≠ some k:=by
    intro k hk hn e
    rcases hat k e with e2 | e2
    · exact hn e2
    · omega
  have nM:vM'.ownBlock ≠ some b:=by
    rcases hMl with rfl | ⟨rfl,rfl⟩
    · exact h.nbM
    · exact new b hb hub
  have nR:vR'.ownBlock ≠ some b:=by
    rcases hRl with rfl | ⟨rfl,rfl⟩
    · exact h.nbR
    · exact new b hb hub
  have oldM:∀ k,k < w.heap.size→vM.ownBlock ≠ some k→vM'.ownBlock ≠ some k:=by
    intro k hk hn
    rcases hMl with rfl | ⟨rfl,rfl⟩
    · exact hn
    · exact new k hk hn
  have oldR:∀ k,k < w.heap.size→vR.ownBlock ≠ some k→vR'.ownBlock ≠ some k:=by
    intro k hk hn
    rcases hRl with rfl | ⟨rfl,rfl⟩
    · exact hn
    · exact new k hk hn
  refine ⟨?_,by rw [hT];exact h.len,?_,hM,hR,?_,h.nbN,nM,nR,?_,?_,hMR,?_⟩
  · have e:w2.heap[b]?=_:=(h2 b hb hub).trans h.blk
    rw [blk_set e,hc]
  · rw [hT]
    exact own_same h.oN (fun k e=>h3 k (h.oN.lt k e).2 (fun e2=>huN k e2 e) (fun e2=>h.nbN (e2 ▸ e)))
  · intro k x v hx hv
    rw [hT] at hx
    obtain ⟨o1,o2⟩:=h.oV k x v hx hv
    have hm:=List.mem_of_getElem? hv
    exact ⟨own_same o1 (fun j e=>h3 j (o1.lt j e).2 (huV v hm j (.inl e)) (h.imm v hm j (.inl e)).1),own_same o2 (fun j e=>h3 j (o2.lt j e).2 (huV v hm j (.inr e)) (h.imm v hm j (.inr e)).1)⟩
  · intro k e1 e2
    exact oldM k (h.oN.lt k e1).2 (fun e3=>h.apNM k e1 e3) e2
  · intro k e1 e2
    exact oldR k (h.oN.lt k e1).2 (fun e3=>h.apNR k e1 e3) e2
  · intro x hx k e
    obtain ⟨i1,i2,i3,i4⟩:=h.imm x hx k e
    have hk:=h.lt k (.inr (.inr (.inr (.inr ⟨x,hx,e⟩))))
    exact ⟨i1,i2,oldM k hk i3,oldR k hk i4⟩
theorem grow_fin {w X w2:World} {b:Nat} {s:ByteArray} {S:Nat→Prop} {st':St} {vN vM vR u vM' vR':Value} {V:List (Value × Value)} {g n cap o:Nat} (hf:∀ j,Foot b vN vM vR V j→S j) (hS:∀ j,S j→j < w.heap.size)
    (A:RdAt (w2.setCell ⟨b,o,none⟩ (.slice (some ⟨g,0,none⟩) n cap)) b s st' vN vM' vR' V) (hX:Kept (fun _=>True) w X) (hg:X.grownBy w2 u.ownBlock) (hu:∀ k,u.ownBlock=some k→S k) (hat:u.ownBlock=some g ∨ w.heap.size≤g) (hlt:g < w2.heap.size)
    (hMl:vM'=vM ∨ vM'=.slice (some ⟨g,0,none⟩) n cap) (hRl:vR'=vR ∨ vR'=.slice (some ⟨g,0,none⟩) n cap) :
    ∃ S',Rd (w2.setCell ⟨b,o,none⟩ (.slice (some ⟨g,0,none⟩) n cap)) b s S' st'∧Evo w S (w2.setCell ⟨b,o,none⟩ (.slice (some ⟨g,0,none⟩) n cap)) S':=by
  have hsz:w.heap.size≤w2.heap.size:=Nat.le_trans hX.size hg.size
  have hSb:=hf b (.inl rfl)
  have hgs:S g ∨ (w.heap.size≤g∧g < w2.heap.size):=by
    rcases hat with h | h
    · exact .inl (hu g h)
    · exact .inr ⟨h,hlt⟩
  refine ⟨fun j=>S j ∨ (w.heap.size≤j∧j < w2.heap.size),⟨_,_,_,_,A,?_,?_⟩,⟨?_,fun j hj=>hj.imp id (fun h=>h.1)⟩⟩
  · rintro j (rfl | e | e | e | e)
    · exact .inl hSb
    · exact .inl (hf j (.inr (.inl e)))
    · rcases hMl with rfl | rfl
      · exact .inl (hf j (.inr (.inr (.inl e))))
      · have e2:g=j:=by simpa [Value.ownBlock] using e
        exact e2 ▸ hgs
    · rcases hRl with rfl | rfl
      · exact .inl (hf j (.inr (.inr (.inr (.inl e)))))
      · have e2:g=j:=by simpa [Value.ownBlock] using e
        exact e2 ▸ hgs
    · exact .inl (hf j (.inr (.inr (.inr (.inr e)))))
  · have e:(w2.setCell ⟨b,o,none⟩ (.slice (some ⟨g,0,none⟩) n cap)).heap.size=w2.heap.size:=by simp [World.setCell]
    rw [e]
    rintro j (h | h)
    · have:=hS j h;omega
    · exact h.2
  · exact Kept.setCell ((hX.mono (fun _ _ _=>trivial)).grown hg (fun k e _ hn=>hn (hu k e))) (fun hn=>hn hSb) _
theorem slice_ne {g n cap k b:Nat} (e:(Value.slice (some ⟨g,0,none⟩) n cap).ownBlock=some k) (h:g ≠ b):k ≠ b:=by
  have e3:g=k:=by simpa [Value.ownBlock] using e
  omega
theorem addR_fin {w X w2:World} {b:Nat} {s:ByteArray} {S:Nat→Prop} {st:St} {vN vM vR:Value} {V:List (Value × Value)} {g cap:Nat} (n:Nat) (A:RdAt w b s st vN vM vR V) (hf:∀ j,Foot b vN vM vR V j→S j) (hS:∀ j,S j→j < w.heap.size)
    (hX:Kept (fun _=>True) w X) (hg:X.grownBy w2 vR.ownBlock) (hown:w2.ownsRow 0 3 1 (.slice (some ⟨g,0,none⟩) (st.rules.length + 1) cap) (st.rules.length + 1) (ints st.rules ++ [.int .i64 (n:Int)])) (hat:vR.ownBlock=some g ∨ w.heap.size≤g) (hlt:g < w2.heap.size) :
    ∃ S',Rd (w2.setCell ⟨b,7,none⟩ (.slice (some ⟨g,0,none⟩) (st.rules.length + 1) cap)) b s S' { st with rules:=st.rules ++ [n] }∧Evo w S (w2.setCell ⟨b,7,none⟩ (.slice (some ⟨g,0,none⟩) (st.rules.length + 1) cap)) S':=by
  have hb:=lt_of_block A.blk
  have hli:Lies w vR (.slice (some ⟨g,0,none⟩) (st.rules.length + 1) cap):=by
    intro k e
    have e2:g=k:=by simpa [Value.ownBlock] using e
    subst e2
    exact hat
  have hgb:g ≠ b:=by
    rintro rfl
    rcases hat with h | h
    · exact A.nbR h
    · omega
  have hne:∀ k,k < w.heap.size→vR.ownBlock ≠ some k→k ≠ b→(w2.setCell ⟨b,7,none⟩ (.slice (some ⟨g,0,none⟩) (st.rules.length + 1) cap)).heap[k]?=w.heap[k]?:=fun k hk hn hb2=>(blk_ne _ hb2).trans ((hg.block k (Nat.lt_of_lt_of_le hk hX.size) (fun e=>hn e.symm)).trans (hX.block k hk trivial))
  have A2:=A.grow (st':={ st with rules:=st.rules ++ [n] }) (vM':=vM) (vR':=.slice (some ⟨g,0,none⟩) (st.rules.length + 1) cap) 7 hX hg hli rfl rfl A.nbR A.apNR.symm (fun x hx k e=>(A.imm x hx k e).2.2.2)
    (own_same A.oM (fun k e=>hne k (A.oM.lt k e).2 (fun e2=>A.apMR k e e2) (fun e2=>A.nbM (e2 ▸ e))))
    (by
      show World.ownsRow _ 0 3 1 _ (st.rules ++ [n]).length (ints (st.rules ++ [n]))
      rw [ints_snoc,List.length_append]
      exact own_same hown (fun k e=>blk_ne _ (slice_ne e hgb)))
    (.inl rfl) (.inr ⟨rfl,rfl⟩) (fun k e1 e2=>by
      have e3:g=k:=by simpa [Value.ownBlock] using e2
      subst e3
      rcases hat with h | h
      · exact A.apMR _ e1 h
      · have:=(A.oM.lt _ e1).2;omega)
  exact grow_fin hf hS A2 hX hg (fun k e=>hf k (.inr (.inr (.inr (.inl e))))) hat hlt (.inl rfl) (.inr rfl)
theorem addM_fin {w X w2:World} {b:Nat} {s:ByteArray} {S:Nat→Prop} {st:St} {vN vM vR:Value} {V:List (Value × Value)} {g cap:Nat} (nm:ByteArray) (n:Nat) (A:RdAt w b s st vN vM vR V) (hf:∀ j,Foot b vN vM vR V j→S j) (hS:∀ j,S j→j < w.heap.size)
    (hX:Kept (fun _=>True) w X) (hg:X.grownBy w2 vM.ownBlock) (hown:w2.ownsRow 0 191 2 (.slice (some ⟨g,0,none⟩) (st.env.length + 1) cap) (st.env.length + 1) (ecells st.env ++ [.string nm,.int .i64 (n:Int)])) (hat:vM.ownBlock=some g ∨ w.heap.size≤g) (hlt:g < w2.heap.size) :
    ∃ S',Rd (w2.setCell ⟨b,6,none⟩ (.slice (some ⟨g,0,none⟩) (st.env.length + 1) cap)) b s S' { st with env:=st.env ++ [(nm,n)] }∧Evo w S (w2.setCell ⟨b,6,none⟩ (.slice (some ⟨g,0,none⟩) (st.env.length + 1) cap)) S':=by
  have hb:=lt_of_block A.blk
  have hli:Lies w vM (.slice (some ⟨g,0,none⟩) (st.env.length + 1) cap):=by
    intro k e
    have e2:g=k:=by simpa [Value.ownBlock] using e
    subst e2
    exact hat
  have hgb:g ≠ b:=by
    rintro rfl
    rcases hat with h | h
    · exact A.nbM h
    · omega
  have hne:∀ k,k < w.heap.size→vM.ownBlock ≠ some k→k ≠ b→(w2.setCell ⟨b,6,none⟩ (.slice (some ⟨g,0,none⟩) (st.env.length + 1) cap)).heap[k]?=w.heap[k]?:=fun k hk hn hb2=>(blk_ne _ hb2).trans ((hg.block k (Nat.lt_of_lt_of_le hk hX.size) (fun e=>hn e.symm)).trans (hX.block k hk trivial))
  have A2:=A.grow (st':={ st with env:=st.env ++ [(nm,n)] }) (vR':=vR) (vM':=.slice (some ⟨g,0,none⟩) (st.env.length + 1) cap) 6 hX hg hli rfl rfl A.nbM A.apNM.symm (fun x hx k e=>(A.imm x hx k e).2.2.1)
    (by
      show World.ownsRow _ 0 191 2 _ (st.env ++ [(nm,n)]).length (ecells (st.env ++ [(nm,n)]))
      rw [ecells_snoc,List.length_append]
      exact own_same hown (fun k e=>blk_ne _ (slice_ne e hgb)))
    (own_same A.oR (fun k e=>hne k (A.oR.lt k e).2 (fun e2=>A.apMR k e2 e) (fun e2=>A.nbR (e2 ▸ e))))
    (.inr ⟨rfl,rfl⟩) (.inl rfl) (fun k e1 e2=>by
      have e3:g=k:=by simpa [Value.ownBlock] using e1
      subst e3
      rcases hat with h | h
      · exact A.apMR _ h e2
      · have:=(A.oR.lt _ e2).2;omega)
  exact grow_fin hf hS A2 hX hg (fun k e=>hf k (.inr (.inr (.inl e)))) hat hlt (.inr rfl) (.inl rfl)
end Rf
end Go.Proofs.YtpgcidpghmoibaaGreatDoor

namespace Go.Proofs.YtpgcidpghmoibaaGreatDoor
namespace Rf
open Go.RowKit
open G (PNode)
theorem SaAt.growI {w X w2:World} {b:Nat} {T:List PNode} {Q:List Nat} {L:List PState} {B F B' F':List Nat} {cs cs':Array Value} {vN vR vS vB vF u u' vB' vF':Value} {V:List (Value × Value)} {W:List Value} (h:SaAt w b T Q L B F cs vN vR vS vB vF V W) (o:Nat)
    (hX:Kept (fun _=>True) w X) (hg:X.grownBy w2 u.ownBlock) (hat:Lies w u u') (hcs:cs'=cs.setIfInBounds o u') (h5:cs'[5]?=some vN) (h7:cs'[7]?=some vR) (h8:cs'[8]?=some vS) (h9:cs'[9]?=some vB') (h10:cs'[10]?=some vF')
    (hub:u.ownBlock ≠ some b) (huS:Apart u vS) (huI:∀ k,ImmS vN vR V W k→u.ownBlock ≠ some k)
    (hB:(w2.setCell ⟨b,o,none⟩ u').ownsRow 0 3 1 vB' B'.length (ints B')) (hF:(w2.setCell ⟨b,o,none⟩ u').ownsRow 0 3 1 vF' F'.length (ints F'))
    (hBl:vB'=vB ∨ vB'=u'∧vB=u) (hFl:vF'=vF ∨ vF'=u'∧vF=u) (hBF:Apart vB' vF') :
    SaAt (w2.setCell ⟨b,o,none⟩ u') b T Q L B' F' cs' vN vR vS vB' vF' V W:=by
  have hb:=lt_of_block h.ro.blk
  have h2:∀ k,k < w.heap.size→u.ownBlock ≠ some k→w2.heap[k]?=w.heap[k]?:=fun k hk hn=>(hg.block k (Nat.lt_of_lt_of_le hk hX.size) (fun e=>hn e.symm)).trans (hX.block k hk trivial)
  have h3:∀ k,k < w.heap.size→u.ownBlock ≠ some k→k ≠ b→(w2.setCell ⟨b,o,none⟩ u').heap[k]?=w.heap[k]?:=fun k hk hn hne=>(blk_ne u' hne).trans (h2 k hk hn)
  have new:∀ k,k < w.heap.size→u.ownBlock ≠ some k→u'.ownBlock ≠ some k:=by
    intro k hk hn e
    rcases hat k e with e2 | e2
    · exact hn e2
    · omega
  have oldB:∀ k,k < w.heap.size→vB.ownBlock ≠ some k→vB'.ownBlock ≠ some k:=by
    intro k hk hn
    rcases hBl with rfl | ⟨rfl,rfl⟩
    · exact hn
    · exact new k hk hn
  have oldF:∀ k,k < w.heap.size→vF.ownBlock ≠ some k→vF'.ownBlock ≠ some k:=by
    intro k hk hn
    rcases hFl with rfl | ⟨rfl,rfl⟩
    · exact hn
    · exact new k hk hn
  have him:∀ k,ImmS vN vR V W k→(w2.setCell ⟨b,o,none⟩ u').heap[k]?=w.heap[k]?:=fun k hk=>h3 k (h.lt k (.inr (.inr (.inr (.inr hk))))) (huI k hk) (h.imm k hk).1
  refine ⟨?_,h8,h9,h10,h.len,?_,hB,hF,?_,h.nbS,oldB b hb h.nbB,oldF b hb h.nbF,?_,?_,hBF,?_⟩
  · have e:w2.heap[b]?=_:=(h2 b hb hub).trans h.ro.blk
    exact ro_same h.ro (by rw [blk_set e,hcs]) h5 h7 (fun k e=>him k (by
      rcases e with e | e | e
      · exact .inl e
      · exact .inr (.inl e)
      · exact .inr (.inr (.inl e))))
  · exact own_same h.oS (fun k e=>h3 k (h.oS.lt k e).2 (fun e2=>huS k e2 e) (fun e2=>h.nbS (e2 ▸ e)))
  · intro k x v hx hv
    exact own_same (h.oW k x v hx hv) (fun j e=>him j (.inr (.inr (.inr ⟨v,List.mem_of_getElem? hv,e⟩))))
  · intro k e1 e2
    exact oldB k (h.oS.lt k e1).2 (fun e3=>h.apSB k e1 e3) e2
  · intro k e1 e2
    exact oldF k (h.oS.lt k e1).2 (fun e3=>h.apSF k e1 e3) e2
  · intro k e
    obtain ⟨i1,i2,i3,i4⟩:=h.imm k e
    have hk:=h.lt k (.inr (.inr (.inr (.inr e))))
    exact ⟨i1,i2,oldB k hk i3,oldF k hk i4⟩
theorem addB_fin {w X w2:World} {b:Nat} {S M:Nat→Prop} {T:List PNode} {Q:List Nat} {L:List PState} {B F:List Nat} {cs:Array Value} {vN vR vS vB vF:Value} {V:List (Value × Value)} {W:List Value} {g cap:Nat} (n:Nat) (A:SaAt w b T Q L B F cs vN vR vS vB vF V W) (hcs:cs.size=11)
    (hf:∀ k,FootS b vN vR vS vB vF V W k→S k) (hS:∀ k,S k→k < w.heap.size) (hM:∀ k,MutS b vS vB vF k→M k) (hMS:∀ k,M k→S k) (hIM:∀ k,ImmS vN vR V W k→¬ M k)
    (hX:Kept (fun _=>True) w X) (hg:X.grownBy w2 vB.ownBlock) (hown:w2.ownsRow 0 3 1 (.slice (some ⟨g,0,none⟩) (B.length + 1) cap) (B.length + 1) (ints B ++ [.int .i64 (n:Int)])) (hat:vB.ownBlock=some g ∨ w.heap.size≤g) (hlt:g < w2.heap.size) :
    ∃ S' M',Sa (w2.setCell ⟨b,9,none⟩ (.slice (some ⟨g,0,none⟩) (B.length + 1) cap)) b S' M' T Q L (B ++ [n]) F∧Evo w M (w2.setCell ⟨b,9,none⟩ (.slice (some ⟨g,0,none⟩) (B.length + 1) cap)) M'∧∀ j,S' j→S j ∨ w.heap.size≤j:=by
  have hb:=lt_of_block A.ro.blk
  have hsz:w.heap.size≤w2.heap.size:=Nat.le_trans hX.size hg.size
  have hli:Lies w vB (.slice (some ⟨g,0,none⟩) (B.length + 1) cap):=by
    intro k e
    have e2:g=k:=by simpa [Value.ownBlock] using e
    subst e2
    exact hat
  have hgb:g ≠ b:=by
    rintro rfl
    rcases hat with h | h
    · exact A.nbB h
    · omega
  have hne:∀ k,k < w.heap.size→vB.ownBlock ≠ some k→k ≠ b→(w2.setCell ⟨b,9,none⟩ (.slice (some ⟨g,0,none⟩) (B.length + 1) cap)).heap[k]?=w.heap[k]?:=fun k hk hn hb2=>(blk_ne _ hb2).trans ((hg.block k (Nat.lt_of_lt_of_le hk hX.size) (fun e=>hn e.symm)).trans (hX.block k hk trivial))
  have hgrow:World.ownsRow (w2.setCell ⟨b,9,none⟩ (.slice (some ⟨g,0,none⟩) (B.length + 1) cap)) 0 3 1 (.slice (some ⟨g,0,none⟩) (B.length + 1) cap) (B ++ [n]).length (ints (B ++ [n])):=by
    rw [ints_snoc,List.length_append]
    exact own_same hown (fun k e=>blk_ne _ (slice_ne e hgb))
  have hold:=own_same A.oF (fun k e=>hne k (A.oF.lt k e).2 (fun e2=>A.apBF k e2 e) (fun e2=>A.nbF (e2 ▸ e)))
  have hgI:∀ k,ImmS vN vR V W k→vB.ownBlock ≠ some k:=fun k hk=>(A.imm k hk).2.2.1
  have hap:Apart (.slice (some ⟨g,0,none⟩) (B.length + 1) cap) vF:=by
    intro k e1 e2
    have e3:g=k:=by simpa [Value.ownBlock] using e1
    subst e3
    rcases hat with h | h
    · exact A.apBF _ h e2
    · have:=(A.oF.lt _ e2).2;omega
  have A2:=A.growI (B':=B ++ [n]) (F':=F) (vB':=.slice (some ⟨g,0,none⟩) (B.length + 1) cap) (vF':=vF) 9 hX hg hli rfl (by simpa using A.ro.c5) (by simpa using A.ro.c7) (by simpa using A.c8) (by simp [hcs]) (by simpa using A.c10) A.nbB A.apSB.symm hgI hgrow hold (.inr ⟨rfl,rfl⟩) (.inl rfl) hap
  have hg2:M g ∨ (w.heap.size≤g∧g < w2.heap.size):=by
    rcases hat with h | h
    · exact .inl (hM g (.inr (.inr (.inl h))))
    · exact .inr ⟨h,hlt⟩
  have hgk:∀ k,(Value.slice (some ⟨g,0,none⟩) (B.length + 1) cap).ownBlock=some k→M k ∨ (w.heap.size≤k∧k < w2.heap.size):=by
    intro k e
    have e2:g=k:=by simpa [Value.ownBlock] using e
    exact e2 ▸ hg2
  refine ⟨fun j=>S j ∨ (w.heap.size≤j∧j < w2.heap.size),fun j=>M j ∨ (w.heap.size≤j∧j < w2.heap.size),⟨_,_,_,_,_,_,_,_,A2,by simpa using hcs,?_,?_,?_,fun k hk=>hk.imp (hMS k) id,?_⟩,⟨?_,fun j hj=>hj.imp id (fun h=>h.1)⟩,fun j hj=>hj.imp id (fun h=>h.1)⟩
  · rintro k (e | e | e | e | e)
    · exact .inl (hf k (.inl e))
    · exact .inl (hf k (.inr (.inl e)))
    · exact (hgk k e).imp (hMS k) id
    · exact .inl (hf k (.inr (.inr (.inr (.inl e)))))
    · exact .inl (hf k (.inr (.inr (.inr (.inr e)))))
  · have e:(w2.setCell ⟨b,9,none⟩ (.slice (some ⟨g,0,none⟩) (B.length + 1) cap)).heap.size=w2.heap.size:=by simp [World.setCell]
    rw [e]
    rintro k (h | h)
    · have:=hS k h;omega
    · exact h.2
  · rintro k (e | e | e | e)
    · exact .inl (hM k (.inl e))
    · exact .inl (hM k (.inr (.inl e)))
    · exact hgk k e
    · exact .inl (hM k (.inr (.inr (.inr e))))
  · rintro k e (h | h)
    · exact hIM k e h
    · have:=hS k (hf k (.inr (.inr (.inr (.inr e)))));omega
  · exact Kept.setCell ((hX.mono (fun _ _ _=>trivial)).grown hg (fun k e _ hn=>hn (hM k (.inr (.inr (.inl e)))))) (fun hn=>hn (hM b (.inl rfl))) _
theorem addF_fin {w X w2:World} {b:Nat} {S M:Nat→Prop} {T:List PNode} {Q:List Nat} {L:List PState} {B F:List Nat} {cs:Array Value} {vN vR vS vB vF:Value} {V:List (Value × Value)} {W:List Value} {g cap:Nat} (n:Nat) (A:SaAt w b T Q L B F cs vN vR vS vB vF V W) (hcs:cs.size=11)
    (hf:∀ k,FootS b vN vR vS vB vF V W k→S k) (hS:∀ k,S k→k < w.heap.size) (hM:∀ k,MutS b vS vB vF k→M k) (hMS:∀ k,M k→S k) (hIM:∀ k,ImmS vN vR V W k→¬ M k)
    (hX:Kept (fun _=>True) w X) (hg:X.grownBy w2 vF.ownBlock) (hown:w2.ownsRow 0 3 1 (.slice (some ⟨g,0,none⟩) (F.length + 1) cap) (F.length + 1) (ints F ++ [.int .i64 (n:Int)])) (hat:vF.ownBlock=some g ∨ w.heap.size≤g) (hlt:g < w2.heap.size) :
    ∃ S' M',Sa (w2.setCell ⟨b,10,none⟩ (.slice (some ⟨g,0,none⟩) (F.length + 1) cap)) b S' M' T Q L B (F ++ [n])∧Evo w M (w2.setCell ⟨b,10,none⟩ (.slice (some ⟨g,0,none⟩) (F.length + 1) cap)) M'∧∀ j,S' j→S j ∨ w.heap.size≤j:=by
  have hb:=lt_of_block A.ro.blk
  have hsz:w.heap.size≤w2.heap.size:=Nat.le_trans hX.size hg.size
  have hli:Lies w vF (.slice (some ⟨g,0,none⟩) (F.length + 1) cap):=by
    intro k e
    have e2:g=k:=by simpa [Value.ownBlock] using e
    subst e2
    exact hat
  have hgb:g ≠ b:=by
    rintro rfl
    rcases hat with h | h
    · exact A.nbF h
    · omega
  have hne:∀ k,k < w.heap.size→vF.ownBlock ≠ some k→k ≠ b→(w2.setCell ⟨b,10,none⟩ (.slice (some ⟨g,0,none⟩) (F.length + 1) cap)).heap[k]?=w.heap[k]?:=fun k hk hn hb2=>(blk_ne _ hb2).trans ((hg.block k (Nat.lt_of_lt_of_le hk hX.size) (fun e=>hn e.symm)).trans (hX.block k hk trivial))
  have hgrow:World.ownsRow (w2.setCell ⟨b,10,none⟩ (.slice (some ⟨g,0,none⟩) (F.length + 1) cap)) 0 3 1 (.slice (some ⟨g,0,none⟩) (F.length + 1) cap) (F ++ [n]).length (ints (F ++ [n])):=by
    rw [ints_snoc,List.length_append]
    exact own_same hown (fun k e=>blk_ne _ (slice_ne e hgb))
  have hold:=own_same A.oB (fun k e=>hne k (A.oB.lt k e).2 (fun e2=>A.apBF k e e2) (fun e2=>A.nbB (e2 ▸ e)))
  have hgI:∀ k,ImmS vN vR V W k→vF.ownBlock ≠ some k:=fun k hk=>(A.imm k hk).2.2.2
  have hap:Apart vB (.slice (some ⟨g,0,none⟩) (F.length + 1) cap):=by
    intro k e1 e2
    have e3:g=k:=by simpa [Value.ownBlock] using e2
    subst e3
    rcases hat with h | h
    · exact A.apBF _ e1 h
    · have:=(A.oB.lt _ e1).2;omega
  have A2:=A.growI (B':=B) (F':=F ++ [n]) (vB':=vB) (vF':=.slice (some ⟨g,0,none⟩) (F.length + 1) cap) 10 hX hg hli rfl (by simpa using A.ro.c5) (by simpa using A.ro.c7) (by simpa using A.c8) (by simpa using A.c9) (by simp [hcs]) A.nbF A.apSF.symm hgI hold hgrow (.inl rfl) (.inr ⟨rfl,rfl⟩) hap
  have hg2:M g ∨ (w.heap.size≤g∧g < w2.heap.size):=by
    rcases hat with h | h
    · exact .inl (hM g (.inr (.inr (.inr h))))
    · exact .inr ⟨h,hlt⟩
  have hgk:∀ k,(Value.slice (some ⟨g,0,none⟩) (F.length + 1) cap).ownBlock=some k→M k ∨ (w.heap.size≤k∧k < w2.heap.size):=by
    intro k e
    have e2:g=k:=by simpa [Value.ownBlock] using e
    exact e2 ▸ hg2
  refine ⟨fun j=>S j ∨ (w.heap.size≤j∧j < w2.heap.size),fun j=>M j ∨ (w.heap.size≤j∧j < w2.heap.size),⟨_,_,_,_,_,_,_,_,A2,by simpa using hcs,?_,?_,?_,fun k hk=>hk.imp (hMS k) id,?_⟩,⟨?_,fun j hj=>hj.imp id (fun h=>h.1)⟩,fun j hj=>hj.imp id (fun h=>h.1)⟩
  · rintro k (e | e | e | e | e)
    · exact .inl (hf k (.inl e))
    · exact .inl (hf k (.inr (.inl e)))
    · exact .inl (hf k (.inr (.inr (.inl e))))
    · exact (hgk k e).imp (hMS k) id
    · exact .inl (hf k (.inr (.inr (.inr (.inr e)))))
  · have e:(w2.setCell ⟨b,10,none⟩ (.slice (some ⟨g,0,none⟩) (F.length + 1) cap)).heap.size=w2.heap.size:=by simp [World.setCell]
    rw [e]
    rintro k (h | h)
    · have:=hS k h;omega
    · exact h.2
  · rintro k (e | e | e | e)
    · exact .inl (hM k (.inl e))
    · exact .inl (hM k (.inr (.inl e)))
    · exact .inl (hM k (.inr (.inr (.inl e))))
    · exact hgk k e
  · rintro k e (h | h)
    · exact hIM k e h
    · have:=hS k (hf k (.inr (.inr (.inr (.inr e)))));omega
  · exact Kept.setCell ((hX.mono (fun _ _ _=>trivial)).grown hg (fun k e _ hn=>hn (hM k (.inr (.inr (.inr e)))))) (fun hn=>hn (hM b (.inl rfl))) _
end Rf
end Go.Proofs.YtpgcidpghmoibaaGreatDoor
