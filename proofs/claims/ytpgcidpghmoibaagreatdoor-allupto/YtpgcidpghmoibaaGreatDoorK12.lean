/-
  THE REFERENCE's READER
  THE REFERENCE's RULES AS STATES
  THE REFERENCE's RULES AS STATES
  THE REFERENCE's RULES AS STATES
  THE REFERENCE's RULES AS STATES
-/
import Derived.Test.YtpgcidpghmoibaaGreatDoorK02
import Derived.Test.YtpgcidpghmoibaaGreatDoorK11
import Derived.Test.YtpgcidpghmoibaaGreatDoorK09
import Derived.Test.YtpgcidpghmoibaaGreatDoorK08
namespace Go.Proofs.YtpgcidpghmoibaaGreatDoor
namespace Rf
open Go.RowKit
open G (PNode)
structure Pre (s:ByteArray) (st:St):Prop where
  err:st.err=0
  i:st.i≤s.size
  len:st.T.length≤4 * st.i
  wf:G.WF st.T
  env:∀ x ∈ st.env,x.2 < st.T.length
def ReadPost (w:World) (b:Nat) (s:ByteArray) (S:Nat→Prop) (st:St) (r:G.Res) (B:Nat) (v:Int) (w':World):Prop:=
  ∃ S' st',Rd w' b s S' st'∧Evo w S w' S'∧st'.deep=st.deep∧st'.env=st.env∧st'.rules=st.rules ∧
    match r with
    | .ok n j T'=>v=(n:Int)∧st'={ st with i:=j,T:=T' }
    | .err c p=>st'.err=c∧st'.place=p∧c ≠ 0∧st'.i≤2100 + B∧st'.T.length≤8100 + B∧(∀ x ∈ st'.T,x.size≤101)∧st.T.length≤st'.T.length
structure Loc (w:World) (S:Nat→Prop) (base:Nat) (v:Value) (ps:List Nat):Prop where
  own:w.ownsRow base 3 1 v ps.length (ints ps)
  out:∀ k,v.ownBlock=some k→¬ S k
theorem Loc.evo {w w':World} {S S':Nat→Prop} {base:Nat} {v:Value} {ps:List Nat} (h:Loc w S base v ps) (he:Evo w S w' S'):Loc w' S' base v ps:=by
  refine ⟨?_,fun k e h2=>?_⟩
  · obtain ⟨h1,h2⟩:=h.own
    refine ⟨h1,?_⟩
    rcases h2 with h2 | ⟨g,cap,cur,rfl,h3,h4,h5⟩
    · exact .inl h2
    · exact .inr ⟨g,cap,cur,rfl,h3,by rw [he.kept.block g (lt_of_block h4) (h.out g rfl)];exact h4,h5⟩
  · rcases he.new k h2 with h3 | h3
    · exact h.out k e h3
    · have:=(h.own.lt k e).2
      omega
theorem Loc.nil (w:World) (S:Nat→Prop) (base:Nat):Loc w S base (.slice none 0 0) []:=⟨World.ownsRow_nil _ _ _ _,fun k e=>by simp [Value.ownBlock] at e⟩
theorem infoRange:(Tryz.prog.info? 201).map (fun i=>(i.zero,i.size,i.bytes))=some (some (.agg #[.int .i64 0,.int .i64 0]),2,16):=by kernel_rfl
theorem own_new (w:World) (base e size n:Nat) (cs:Array Value) (hb:base≤w.heap.size) (hn:cs.size=n * size) (hm:n≤maxLen):(w.alloc (.cells cs e)).ownsRow base e size (.slice (some ⟨w.heap.size,0,none⟩) n n) n cs.toList:=by
  refine ⟨by simpa using hn,.inr ⟨w.heap.size,n,cs,rfl,hb,heap_alloc_new w _,Nat.le_refl _,hm,hn,?_⟩⟩
  rw [List.take_of_length_le (by simpa using Nat.le_of_eq hn)]
theorem Loc.add {w X w2:World} {S:Nat→Prop} {base:Nat} {v v':Value} {ps:List Nat} {b:Nat} {s:ByteArray} {st:St} (h:Loc w S base v ps) (hR:Rd w b s S st) (n:Nat) (hX:Kept (fun _=>True) w X) (hn:X.heap.size=w.heap.size + 1)
    (hown:w2.ownsRow base 3 1 v' (ps.length + 1) (ints ps ++ [.int .i64 (n:Int)])) (hg:X.grownBy w2 v.ownBlock) (hat:v'.ownBlock=v.ownBlock ∨ v'.ownBlock=some X.heap.size) :
    Loc w2 S base v' (ps ++ [n])∧Rd w2 b s S st∧(∀ W S0,Evo W S0 w S→W.heap.size≤base→Evo W S0 w2 S):=by
  refine ⟨⟨by rw [ints_snoc,List.length_append];exact hown,fun k e h2=>?_⟩,?_,fun W S0 he hb=>?_⟩
  · rcases hat with h3 | h3
    · exact h.out k (h3 ▸ e) h2
    · rw [h3] at e
      have:=hR.lt k h2
      simp only [Option.some.injEq] at e
      omega
  · exact (hR.same hX.size (fun k hk=>hX.block k (hR.lt k hk) trivial)).grown hg (fun k e=>h.out k e)
  · exact ⟨(he.kept.trans (hX.mono (fun _ _ _=>trivial))).grown hg (fun k e hk=>absurd (h.own.lt k e).1 (by omega)),he.new⟩
def runM (b:Nat) (w:World):Nat:=match w.cell? ⟨b,2,none⟩ with | some (.int _ 0)=>3001 - posOf b w | _=>0
theorem Rd.runOk {w:World} {b:Nat} {s:ByteArray} {S:Nat→Prop} {st:St} (h:Rd w b s S st) (he:st.err=0):runM b w=3001 - st.i:=by
  unfold runM
  rw [h.reads.c2,he,h.pos]
  rfl
theorem Rd.runNo {w:World} {b:Nat} {s:ByteArray} {S:Nat→Prop} {st:St} (h:Rd w b s S st) (he:st.err ≠ 0):runM b w=0:=by
  unfold runM
  rw [h.reads.c2]
  split
  · rename_i hx
    simp only [Option.some.injEq,Value.int.injEq] at hx
    omega
  · rfl
theorem Evo.node {w w1 w2:World} {S S1 S2:Nat→Prop} {rv pv:Value} (h:Evo w S w1 S1) (hk:Kept (fun j=>¬ S1 j) w1 w2) (hn:∀ j,S2 j→S1 j ∨ rv.ownBlock=some j ∨ pv.ownBlock=some j ∨ w1.heap.size≤j)
    (hr:∀ j,rv.ownBlock=some j→w.heap.size≤j) (hp:∀ j,pv.ownBlock=some j→w.heap.size≤j):Evo w S w2 S2 where
  kept:=h.kept.trans' hk (fun i hi hn h2=>by
    rcases h.new i h2 with h3 | h3
    · exact hn h3
    · omega)
  new j hj:=by
    rcases hn j hj with h2 | h2 | h2 | h2
    · exact h.new j h2
    · exact .inr (hr j h2)
    · exact .inr (hp j h2)
    · exact .inr (Nat.le_trans h.kept.size h2)
theorem mk_le (T:List PNode) (k:Nat) (rs:List (Nat × Nat)) (o:Bool) (ps:List Nat) (h:∀ x ∈ T,x.size≤101):∀ x ∈ T ++ [G.mk T k rs o ps],x.size≤101:=by
  intro x hx
  rcases List.mem_append.1 hx with hx | hx
  · exact h x hx
  · simp only [List.mem_singleton] at hx
    subst hx
    exact Nat.min_le_right _ _
theorem none_own (j:Nat) (p:Prop):(Value.slice none 0 0).ownBlock=some j→p:=fun e=>by simp [Value.ownBlock] at e
theorem lt_snoc (T:List PNode) (x:PNode) (ps:List Nat) (h:∀ p ∈ ps,p < T.length):∀ p ∈ ps ++ [T.length],p < (T ++ [x]).length:=by
  intro p hp
  rw [List.length_append,List.length_singleton]
  rcases List.mem_append.1 hp with hp | hp
  · have:=h p hp;omega
  · simp only [List.mem_singleton] at hp;omega
theorem nodeP_any (w:World) (b:Nat) (s:ByteArray) (S:Nat→Prop) (st:St) (k base:Nat) (pv:Value) (ps:List Nat) (hR:Rd w b s S st) (hL:Loc w S base pv ps) (hps:∀ p ∈ ps,p < st.T.length) (hTl:st.T.length≤100000) (hpl:ps.length≤100000) (hsz:∀ x ∈ st.T,x.size≤101)
    (W:World) (S0:Nat→Prop) (hE:Evo W S0 w S) (hb:W.heap.size≤base) :
    Calls Tryz.prog 135 #[.pointer (some ⟨b,0,none⟩),.agg #[.int .u8 (k:Int),.slice none 0 0,.bool false,pv,.int .i64 0]] w fun e w'=>e=.returned (.int .i64 (st.T.length:Int)) ∧
      ∃ S',Rd w' b s S' { st with T:=st.T ++ [G.mk st.T k [] false ps] }∧Evo W S0 w' S':=by
  refine (node_any w b s S st hR k false [] ps (.slice none 0 0) pv (World.ownsRow_nil _ _ _ _) (own_zero hL.own) (fun j e=>none_own j _ e) hL.out hps hTl hpl hsz).mono ?_
  rintro e w2 ⟨rfl,S2,hR2,hk2,hn2⟩
  exact ⟨rfl,S2,hR2,hE.node hk2 hn2 (fun j e=>none_own j _ e) (fun j e=>Nat.le_trans hb (hL.own.lt j e).1)⟩
theorem nodeS_any (w:World) (b:Nat) (s:ByteArray) (S:Nat→Prop) (st:St) (o:Bool) (base:Nat) (rv:Value) (rs:List (Nat × Nat)) (hR:Rd w b s S st) (hrv:w.ownsRow base 201 2 rv rs.length (rcells rs)) (hrS:∀ j,rv.ownBlock=some j→¬ S j) (hTl:st.T.length≤100000) (hsz:∀ x ∈ st.T,x.size≤101)
    (W:World) (S0:Nat→Prop) (hE:Evo W S0 w S) (hb:W.heap.size≤base) :
    Calls Tryz.prog 135 #[.pointer (some ⟨b,0,none⟩),.agg #[.int .u8 115,rv,.bool o,.slice none 0 0,.int .i64 0]] w fun e w'=>e=.returned (.int .i64 (st.T.length:Int)) ∧
      ∃ S',Rd w' b s S' { st with T:=st.T ++ [G.mk st.T 115 rs o []] }∧Evo W S0 w' S':=by
  refine (node_any w b s S st hR 115 o rs [] rv (.slice none 0 0) (own_zero hrv) (World.ownsRow_nil _ _ _ _) hrS (fun j e=>none_own j _ e) (by simp) hTl (by simp) hsz).mono ?_
  rintro e w2 ⟨rfl,S2,hR2,hk2,hn2⟩
  exact ⟨rfl,S2,hR2,hE.node hk2 hn2 (fun j e=>Nat.le_trans hb (hrv.lt j e).1) (fun j e=>none_own j _ e)⟩
theorem Loc.form {w:World} {S:Nat→Prop} {base:Nat} {v:Value} {ps:List Nat} (h:Loc w S base v ps) (n:Nat) (hn:ps.length=n):∃ a c,v=.slice a n c:=by
  obtain ⟨a,c,e⟩:=own_len h.own
  exact ⟨a,c,by rw [e,hn]⟩
end Rf
end Go.Proofs.YtpgcidpghmoibaaGreatDoor

namespace Go.Proofs.YtpgcidpghmoibaaGreatDoor
namespace Rf
open Go.RowKit
open G (PNode)
theorem Sa.lt {w:World} {b:Nat} {S M:Nat→Prop} {T:List PNode} {Q:List Nat} {L:List PState} {B F:List Nat} (h:Sa w b S M T Q L B F):∀ k,S k→k < w.heap.size:=by
  obtain ⟨_,_,_,_,_,_,_,_,_,_,_,hl,_⟩:=h
  exact hl
theorem Sa.same {w w':World} {b:Nat} {S M:Nat→Prop} {T:List PNode} {Q:List Nat} {L:List PState} {B F:List Nat} (h:Sa w b S M T Q L B F) (hsz:w.heap.size≤w'.heap.size) (hk:∀ k,S k→w'.heap[k]?=w.heap[k]?):Sa w' b S M T Q L B F:=by
  obtain ⟨cs,vN,vR,vS,vB,vF,V,W,A,hcs,hf,hl,hr⟩:=h
  exact ⟨cs,vN,vR,vS,vB,vF,V,W,A.same (fun k hk2=>hk k (hf k hk2)),hcs,hf,fun k hk2=>Nat.lt_of_lt_of_le (hl k hk2) hsz,hr⟩
theorem Sa.below {w w':World} {b:Nat} {S M:Nat→Prop} {T:List PNode} {Q:List Nat} {L:List PState} {B F:List Nat} (h:Sa w b S M T Q L B F) (hb:Below w.heap.size w w'):Sa w' b S M T Q L B F:=h.same hb.size (fun k hk=>hb.block k (h.lt k hk))
theorem Sa.ro {w:World} {b:Nat} {S M:Nat→Prop} {T:List PNode} {Q:List Nat} {L:List PState} {B F:List Nat} (h:Sa w b S M T Q L B F):∃ cs vN vR V,RoAt w b T Q cs vN vR V∧∀ k,(vN.ownBlock=some k ∨ ∃ x ∈ V,x.1.ownBlock=some k ∨ x.2.ownBlock=some k)→¬ M k:=by
  obtain ⟨cs,vN,vR,vS,vB,vF,V,W,A,_,_,_,_,_,hI⟩:=h
  exact ⟨cs,vN,vR,V,A.ro,fun k e=>hI k (by
    rcases e with e | e
    · exact .inl e
    · exact .inr (.inr (.inl e)))⟩
theorem Evo.of_below {w w1 w2:World} {S S1:Nat→Prop} (h:Evo w S w1 S1) (hb:Below w1.heap.size w1 w2):Evo w S w2 S1:=⟨h.kept.trans (Kept.of_below hb),h.new⟩
def MadeAt (b:Nat) (T:List PNode) (Q:List Nat) (n:Nat):Prop:=
  ∀ (w:World) (S M:Nat→Prop) (L:List PState) (B F:List Nat) (to:Nat),Sa w b S M T Q L B F→to < L.length→L.length + 4 * G.pl T n + n≤20000 →
    Calls Tryz.prog 114 #[.pointer (some ⟨b,0,none⟩),.int .i64 (n:Int),.int .i64 (to:Int)] w fun e w'=>∃ (r:Nat) (L':List PState) (S' M':Nat→Prop),e=.returned (.int .i64 (r:Int))∧Md T (.node n) to L (.one r) L'∧Sa w' b S' M' T Q L' B F∧Evo w M w' M'∧∀ j,S' j→S j ∨ w.heap.size≤j
set_option maxRecDepth 100000 in
set_option maxHeartbeats 2000000 in
theorem made_set (b:Nat) (T:List PNode) (Q:List Nat) (n:Nat) (x:PNode) (hT:G.WF T) (htl:T.length≤100000) (hn:n < T.length) (hx:T[G.bare T n]?=some x) (hk:x.kind=115):MadeAt b T Q n:=by
  intro w S M L B F to hS ht hbd
  obtain ⟨cs,vN,vR,V,hRo,_⟩:=hS.ro
  have hN:=bare_any w b T Q n cs vN vR V hRo hT htl hn
  have HM:Hid _:=Md.set (to:=to) (L:=L) hx hk
  have hkb:((x.kind:Int) == 115)=true:=by simp;omega
  clear hk
  obtain ⟨g,cap,hv,_,_⟩:=hRo.oN.form (by omega)
  subst hv
  have hgl:g < w.heap.size:=(hRo.oN.lt g rfl).2
  obtain ⟨ra1,rc1,pa1,pc1,hnd1⟩:=hRo.node hx
  have hmT:G.bare T n < T.length:=(List.getElem?_eq_some_iff.1 hx).1
  generalize G.bare T n=m at *
  go_enter Tryz.func114,Tryz.ntmps114
  go_wp2_with (first
    | (go_at_call 113;refine hSt.mono ?_;rintro e w5 ⟨rfl,S5,M5,hS5,hk5,hn5⟩)
    | (go_at_call 136
       refine hN.mono ?_
       rintro e w1 ⟨rfl,hb1⟩
       have hRo1:=hRo.below hb1
       have c5:=cell_blk hRo1.blk 5 _ hRo1.c5
       obtain ⟨d0,d1,d2,d3,d4,op1⟩:=hnd1.below hb1 hgl
       have hbz:Below w.heap.size w ((w1.alloc (.cells #[.int .u8 (x.kind:Int),.slice ra1 x.ranges.length rc1,.bool x.other,.slice pa1 x.parts.length pc1,.int .i64 (x.size:Int)] 118)).alloc (.cells #[.int .i64 (to:Int)] 3)):=(hb1.alloc hb1.size _).alloc (by have:=hb1.size;simp;omega) _
       have hrow:=own_new (w1.alloc (.cells #[.int .u8 (x.kind:Int),.slice ra1 x.ranges.length rc1,.bool x.other,.slice pa1 x.parts.length pc1,.int .i64 (x.size:Int)] 118)) 0 3 1 1 #[.int .i64 (to:Int)] (Nat.zero_le _) rfl (by unfold maxLen;omega)
       rw [show (w1.alloc (.cells #[.int .u8 (x.kind:Int),.slice ra1 x.ranges.length rc1,.bool x.other,.slice pa1 x.parts.length pc1,.int .i64 (x.size:Int)] 118)).heap.size=w1.heap.size + 1 by simp] at hrow
       have hSt:=state_any _ b S M T Q L B F (hS.below hbz) ⟨(m:Int),[to]⟩ (some ⟨w1.heap.size + 1,0,none⟩) 1 hrow (fun j e h2=>by have:=hS.lt j h2;have:=hb1.size;simp [Value.ownBlock] at e;omega) (by omega)))
  go_ret
  refine ⟨L.length,_,S5,M5,rfl,HM.out,hS5,((Evo.refl w M).of_below hbz).trans hk5,fun j hj=>?_⟩
  have:=hb1.size
  rcases hn5 j hj with h | h | h
  · exact .inl h
  · simp [Value.ownBlock] at h
    exact .inr (by omega)
  · simp at h
    exact .inr (by omega)
end Rf
end Go.Proofs.YtpgcidpghmoibaaGreatDoor

namespace Go.Proofs.YtpgcidpghmoibaaGreatDoor
namespace Rf
open Go.RowKit
open G (PNode)
theorem rev_take {α:Type} (l:List α) (j:Nat) (p:α) (h:l[j]?=some p):(l.take (j + 1)).reverse=p :: (l.take j).reverse:=by
  have hj:j < l.length:=(List.getElem?_eq_some_iff.1 h).1
  have e:l[j]'hj=p:=(List.getElem?_eq_some_iff.1 h).2
  rw [List.take_succ_eq_append_getElem hj,e]
  simp
theorem pls_take (T:List PNode) (l:List Nat) (j p:Nat) (h:l[j]?=some p):G.pls T (l.take (j + 1))=G.pls T (l.take j) + G.pl T p:=by
  have hj:j < l.length:=(List.getElem?_eq_some_iff.1 h).1
  have e:l[j]'hj=p:=(List.getElem?_eq_some_iff.1 h).2
  rw [List.take_succ_eq_append_getElem hj,e,G.pls_append]
  simp [G.pls]
theorem Sa.ms {w:World} {b:Nat} {S M:Nat→Prop} {T:List PNode} {Q:List Nat} {L:List PState} {B F:List Nat} (h:Sa w b S M T Q L B F):∀ k,M k→S k:=by
  obtain ⟨_,_,_,_,_,_,_,_,_,_,_,_,_,hm,_⟩:=h
  exact hm
theorem RoAt.nodeM {w:World} {b g cap:Nat} {M:Nat→Prop} {T:List PNode} {Q:List Nat} {cs:Array Value} {vR:Value} {V:List (Value × Value)} (h:RoAt w b T Q cs (.slice (some ⟨g,0,none⟩) T.length cap) vR V) (hI:∀ k,((Value.slice (some ⟨g,0,none⟩) T.length cap).ownBlock=some k ∨ ∃ x ∈ V,x.1.ownBlock=some k ∨ x.2.ownBlock=some k)→¬ M k) {n:Nat} {x:PNode} (hx:T[n]?=some x) :
    ∃ ra rc pa pc,NodeR w g n x ra rc pa pc∧∀ k,(Value.slice pa x.parts.length pc).ownBlock=some k→¬ M k:=by
  have hn:n < T.length:=(List.getElem?_eq_some_iff.1 hx).1
  obtain ⟨⟨rv,pv⟩,hu⟩:∃ u,V[n]?=some u:=⟨V[n]'(by rw [h.len];exact hn),List.getElem?_eq_getElem _⟩
  obtain ⟨oR,oP⟩:=h.oV n x (rv,pv) hx hu
  obtain ⟨ra,rc,hre⟩:=own_len oR
  obtain ⟨pa,pc,hpe⟩:=own_len oP
  simp only at hre hpe
  subst hre hpe
  exact ⟨ra,rc,pa,pc,⟨own_cell' h.oN (n * 5 + 0) ((ncells_get hx hu 0 (by omega)).trans rfl),own_cell' h.oN (n * 5 + 1) ((ncells_get hx hu 1 (by omega)).trans rfl),own_cell' h.oN (n * 5 + 2) ((ncells_get hx hu 2 (by omega)).trans rfl),
    own_cell' h.oN (n * 5 + 3) ((ncells_get hx hu 3 (by omega)).trans rfl),own_cell' h.oN (n * 5 + 4) ((ncells_get hx hu 4 (by omega)).trans rfl),oP⟩,fun k e=>hI k (.inr ⟨_,List.mem_of_getElem? hu,.inr e⟩)⟩
set_option maxRecDepth 100000 in
set_option maxHeartbeats 2000000 in
theorem made_seq (b:Nat) (T:List PNode) (Q:List Nat) (n:Nat) (x:PNode) (hT:G.WF T) (htl:T.length≤100000) (hn:n < T.length) (hx:T[G.bare T n]?=some x) (hk:x.kind=113) (hIH:∀ m,m < n→MadeAt b T Q m):MadeAt b T Q n:=by
  intro w S M L B F to hS ht hbd
  obtain ⟨cs,vN,vR,V,hRo,hIm⟩:=hS.ro
  have hN:=bare_any w b T Q n cs vN vR V hRo hT htl hn
  have hble:=G.bare_le hT n
  have hpn:=(hT _ x hx).parts
  have hpl:G.pl T n=G.pls T x.parts:=by rw [← G.pl_bare hT n hn,G.pl_step hT hx,if_neg (by omega)]
  have HM:Hid (∀ r L',Md T (.seq x.parts.reverse) to L r L'→Md T (.node n) to L r L'):=fun r L' h=>Md.seq hx hk h
  have hk1:((x.kind:Int) == 115)=false:=by simp;omega
  have hk2:((x.kind:Int) == 113)=true:=by simp;omega
  have hplen:x.parts.length≤20000:=by
    have hpp:∀ ps:List Nat,(∀ p ∈ ps,p < T.length)→ps.length≤G.pls T ps:=by
      intro ps
      induction ps with
      | nil=>intro _;simp
      | cons p ps ih =>
        intro h
        have h1:=ih (fun q hq=>h q (by simp [hq]))
        have h2:=G.pl_pos hT p (h p (by simp))
        simp only [G.pls,List.map_cons,List.sum_cons,List.length_cons] at *
        omega
    have:=hpp x.parts (fun p hp=>by have:=hpn p hp;omega)
    omega
  clear hk
  obtain ⟨g,cap,hv,_,_⟩:=hRo.oN.form (by omega)
  subst hv
  have hgl:g < w.heap.size:=(hRo.oN.lt g rfl).2
  obtain ⟨ra1,rc1,pa1,pc1,hnd1,hpM⟩:=hRo.nodeM hIm hx
  have hmT:G.bare T n < T.length:=(List.getElem?_eq_some_iff.1 hx).1
  generalize G.bare T n=m at *
  go_enter Tryz.func114,Tryz.ntmps114
  go_wp2_with (go_at_call 136
               refine hN.mono ?_
               rintro e w1 ⟨rfl,hb1⟩
               have hRo1:=hRo.below hb1
               have c5:=cell_blk hRo1.blk 5 _ hRo1.c5
               obtain ⟨d0,d1,d2,d3,d4,op1⟩:=hnd1.below hb1 hgl
               have hbz:Below w.heap.size w (w1.alloc (.cells #[.int .u8 (x.kind:Int),.slice ra1 x.ranges.length rc1,.bool x.other,.slice pa1 x.parts.length pc1,.int .i64 (x.size:Int)] 118)):=hb1.alloc hb1.size _
               have hbb:=heap_alloc_new w1 (.cells #[.int .u8 (x.kind:Int),.slice ra1 x.ranges.length rc1,.bool x.other,.slice pa1 x.parts.length pc1,.int .i64 (x.size:Int)] 118)
               have HZ:Hid _:=And.intro hbz hbb
               clear hbz hbb)
  have hsz1:=hb1.size
  go_loopw [2,8] (fun tv i wr=>∃ (j t:Nat) (L1:List PState) (S1 M1:Nat→Prop),j≤x.parts.length∧(i=.int .i64 ((j:Int) - 1))∧tv=.int .i64 (t:Int)∧Sa wr b S1 M1 T Q L1 B F∧Evo w M wr M1∧(∀ k,S1 k→S k ∨ w.heap.size≤k)∧t < L1.length∧L1.length + 4 * G.pls T (x.parts.take j) + n≤20000∧¬ S1 w1.heap.size∧wr.heap[w1.heap.size]?=some (boxOf x (.slice ra1 x.ranges.length rc1,.slice pa1 x.parts.length pc1))∧∀ r L',Md T (.seq (x.parts.take j).reverse) t L1 r L'→Md T (.seq x.parts.reverse) to L r L')
    (fun _ i _=>(intOf i + 1).toNat)
  case atStart =>
    exact ⟨x.parts.length,to,L,S,M,Nat.le_refl _,rfl,rfl,hS.below HZ.out.1,(Evo.refl _ _).of_below HZ.out.1,fun _ h=>.inl h,ht,by rw [List.take_length,← hpl];exact hbd,fun h=>by have:=hS.lt _ h;omega,HZ.out.2,fun r L' h=>by rw [List.take_length] at h;exact h⟩
  case round =>
    clear c5 d0 d1 d2 d3 d4
    obtain ⟨j,t,L1,S1,M1,hj,rfl,rfl,hS1,hE1,hn1,ht1,hb1',hnS,hbox,k1⟩:=hrel
    have HK:Hid _:=k1
    clear k1
    have cb3:=cell_blk hbox 3 (.slice pa1 x.parts.length pc1) rfl
    match j,hj with
    | 0,_ =>
      go_wp2
      go_ret
      exact ⟨t,L1,S1,M1,rfl,HM.out _ _ (HK.out _ _ Md.seqNil),hS1,hE1,hn1⟩
    | j + 1,hj =>
      have hpj:x.parts[j]?=some (x.parts[j]'(by omega)):=List.getElem?_eq_getElem _
      generalize x.parts[j]'_=p at hpj
      have hpp:=hpn p (List.mem_of_getElem? hpj)
      have hop:=own_same hnd1.op (fun k e=>(hE1.kept.block k (hnd1.op.lt k e).2 (hpM k e)))
      obtain ⟨gp,capp,hvp,_,_⟩:=hop.form (by omega)
      simp only [Value.slice.injEq] at hvp
      obtain ⟨rfl,_,rfl⟩:=hvp
      have cp:wr.cell? ⟨gp,j,none⟩=some (.int .i64 (p:Int)):=own_cell' hop j (by simp [ints,hpj])
      have hpt:=pls_take T x.parts j p hpj
      have hrv:=rev_take x.parts j p hpj
      have hNp:=hIH p (by omega) wr S1 M1 L1 B F t hS1 ht1 (by omega)
      have HRV:Hid _:=hrv
      clear hrv
      have hlb:=lt_of_block hbox
      rw [show ((j + 1:Nat):Int) - 1=(j:Int) by omega]
      go_wp2_with (go_at_call 114;refine hNp.mono ?_;rintro e w3 ⟨r3,L3,S3,M3,rfl,hmd,hS3,hE3,hn3⟩;have HX:Hid _:=And.intro hmd (And.intro hS3 (And.intro hE3 hn3));clear hmd hS3 hE3 hn3)
      go_roundw
      case rel =>
        obtain ⟨hmd,hS3,hE3,hn3⟩:=HX.out
        have hf:=hmd.fine hT (by show p < T.length;omega) ht1
        have hsl:=sl_ge T p
        refine ⟨j,r3,L3,S3,M3,by omega,rfl,rfl,hS3,hE1.trans hE3,fun k hk=>?_,hf.2.1,?_,fun h2=>?_,?_,fun r L' h=>HK.out r L' (by rw [HRV.out];exact Md.seqCons hmd h)⟩
        · rcases hn3 k hk with h | h
          · exact hn1 k h
          · exact .inr (Nat.le_trans hE1.kept.size h)
        · have hb3:L3.length + (MT.node p).sl T≤L1.length + 4 * G.pl T p:=hf.2.2.1
          omega
        · rcases hn3 _ h2 with h | h
          · exact hnS h
          · omega
        · rw [hE3.kept.block w1.heap.size hlb (fun h=>hnS (hS1.ms _ h))]
          exact hbox
      case measure=>simp [intOf]
end Rf
end Go.Proofs.YtpgcidpghmoibaaGreatDoor

namespace Go.Proofs.YtpgcidpghmoibaaGreatDoor
namespace Rf
open Go.RowKit
open G (PNode)
theorem pls_drop (T:List PNode) (l:List Nat) (j p:Nat) (h:l[j]?=some p):l.drop j=p :: l.drop (j + 1)∧G.pls T (l.drop j)=G.pl T p + G.pls T (l.drop (j + 1)):=by
  have hj:j < l.length:=(List.getElem?_eq_some_iff.1 h).1
  have e:l[j]'hj=p:=(List.getElem?_eq_some_iff.1 h).2
  have hd:l.drop j=p :: l.drop (j + 1):=by rw [List.drop_eq_getElem_cons hj,e]
  exact ⟨hd,by rw [hd];simp [G.pls]⟩
theorem Loc.addSa {w X w2:World} {S M:Nat→Prop} {base:Nat} {v v':Value} {ps:List Nat} {b:Nat} {T:List PNode} {Q:List Nat} {L:List PState} {B F:List Nat} (h:Loc w S base v ps) (hS:Sa w b S M T Q L B F) (n:Nat) (hX:Kept (fun _=>True) w X) (hn:X.heap.size=w.heap.size + 1)
    (hown:w2.ownsRow base 3 1 v' (ps.length + 1) (ints ps ++ [.int .i64 (n:Int)])) (hg:X.grownBy w2 v.ownBlock) (hat:v'.ownBlock=v.ownBlock ∨ v'.ownBlock=some X.heap.size) :
    Loc w2 S base v' (ps ++ [n])∧Sa w2 b S M T Q L B F∧(∀ W M0,Evo W M0 w M→W.heap.size≤base→Evo W M0 w2 M)∧∀ k,k < w.heap.size→v.ownBlock ≠ some k→w2.heap[k]?=w.heap[k]?:=by
  have hkk:∀ k,k < w.heap.size→v.ownBlock ≠ some k→w2.heap[k]?=w.heap[k]?:=fun k hk hne=>(hg.block k (Nat.lt_of_lt_of_le hk hX.size) (fun e=>hne e.symm)).trans (hX.block k hk trivial)
  refine ⟨⟨by rw [ints_snoc,List.length_append];exact hown,fun k e h2=>?_⟩,?_,fun W M0 he hb=>?_,hkk⟩
  · rcases hat with h3 | h3
    · exact h.out k (h3 ▸ e) h2
    · rw [h3] at e
      have:=hS.lt k h2
      simp only [Option.some.injEq] at e
      omega
  · exact hS.same (Nat.le_trans hX.size hg.size) (fun k hk=>hkk k (hS.lt k hk) (fun e=>h.out k e hk))
  · exact ⟨(he.kept.trans (hX.mono (fun _ _ _=>trivial))).grown hg (fun k e hk=>absurd (h.own.lt k e).1 (by omega)),he.new⟩
theorem Loc.evoSa {w w':World} {S S' M M':Nat→Prop} {base:Nat} {v:Value} {ps:List Nat} (h:Loc w S base v ps) (hMS:∀ k,M k→S k) (he:Evo w M w' M') (hn:∀ k,S' k→S k ∨ w.heap.size≤k):Loc w' S' base v ps:=by
  refine ⟨?_,fun k e h2=>?_⟩
  · obtain ⟨h1,h2⟩:=h.own
    refine ⟨h1,?_⟩
    rcases h2 with h2 | ⟨g,cap,cur,rfl,h3,h4,h5⟩
    · exact .inl h2
    · exact .inr ⟨g,cap,cur,rfl,h3,by rw [he.kept.block g (lt_of_block h4) (fun hm=>h.out g rfl (hMS g hm))];exact h4,h5⟩
  · rcases hn k h2 with h3 | h3
    · exact h.out k e h3
    · have:=(h.own.lt k e).2
      omega
set_option maxRecDepth 100000 in
set_option maxHeartbeats 2000000 in
theorem made_alt (b:Nat) (T:List PNode) (Q:List Nat) (n:Nat) (x:PNode) (hT:G.WF T) (htl:T.length≤100000) (hn:n < T.length) (hx:T[G.bare T n]?=some x) (hk:x.kind=99) (hIH:∀ m,m < n→MadeAt b T Q m):MadeAt b T Q n:=by
  intro w S M L B F to hS ht hbd
  obtain ⟨i0,hi,hz0,hz1,hz2⟩:=info_parts infoInt
  obtain ⟨cs,vN,vR,V,hRo,hIm⟩:=hS.ro
  have hN:=bare_any w b T Q n cs vN vR V hRo hT htl hn
  have hble:=G.bare_le hT n
  have hpn:=(hT _ x hx).parts
  have hpl:G.pl T n=G.pls T x.parts:=by rw [← G.pl_bare hT n hn,G.pl_step hT hx,if_neg (by omega)]
  have HM:Hid (∀ l L',Md T (.alt x.parts []) to L (.many l) L'→Md T (.node n) to L (.one L'.length) (L' ++ [⟨-1,l⟩])):=fun l L' h=>Md.alt hx hk h
  have hk1:((x.kind:Int) == 115)=false:=by simp;omega
  have hk2:((x.kind:Int) == 113)=false:=by simp;omega
  have hk3:((x.kind:Int) == 99)=true:=by simp;omega
  have hplen:x.parts.length≤20000:=by
    have hpp:∀ ps:List Nat,(∀ p ∈ ps,p < T.length)→ps.length≤G.pls T ps:=by
      intro ps
      induction ps with
      | nil=>intro _;simp
      | cons p ps ih =>
        intro h
        have h1:=ih (fun q hq=>h q (by simp [hq]))
        have h2:=G.pl_pos hT p (h p (by simp))
        simp only [G.pls,List.map_cons,List.sum_cons,List.length_cons] at *
        omega
    have:=hpp x.parts (fun p hp=>by have:=hpn p hp;omega)
    omega
  clear hk
  obtain ⟨g,cap,hv,_,_⟩:=hRo.oN.form (by omega)
  subst hv
  have hgl:g < w.heap.size:=(hRo.oN.lt g rfl).2
  obtain ⟨ra1,rc1,pa1,pc1,hnd1,hpM⟩:=hRo.nodeM hIm hx
  have hmT:G.bare T n < T.length:=(List.getElem?_eq_some_iff.1 hx).1
  generalize G.bare T n=m at *
  go_enter Tryz.func114,Tryz.ntmps114
  go_wp2_with (go_at_call 136
               refine hN.mono ?_
               rintro e w1 ⟨rfl,hb1⟩
               have hRo1:=hRo.below hb1
               have c5:=cell_blk hRo1.blk 5 _ hRo1.c5
               obtain ⟨d0,d1,d2,d3,d4,op1⟩:=hnd1.below hb1 hgl
               have hbz:Below w.heap.size w (w1.alloc (.cells #[.int .u8 (x.kind:Int),.slice ra1 x.ranges.length rc1,.bool x.other,.slice pa1 x.parts.length pc1,.int .i64 (x.size:Int)] 118)):=hb1.alloc hb1.size _
               have hbb:=heap_alloc_new w1 (.cells #[.int .u8 (x.kind:Int),.slice ra1 x.ranges.length rc1,.bool x.other,.slice pa1 x.parts.length pc1,.int .i64 (x.size:Int)] 118)
               have HZ:Hid _:=And.intro hbz hbb
               clear hbz hbb)
  have hsz1:=hb1.size
  go_loopw [9,10] (fun lv i wr=>∃ (j:Nat) (acc:List Nat) (L1:List PState) (S1 M1:Nat→Prop),j≤x.parts.length∧i=.int .i64 (j:Int)∧Loc wr S1 (w1.heap.size + 1) lv acc∧acc.length=j∧Sa wr b S1 M1 T Q L1 B F∧Evo w M wr M1∧(∀ k,S1 k→S k ∨ w.heap.size≤k)∧to < L1.length∧L1.length + 4 * G.pls T (x.parts.drop j) + n≤20000∧¬ S1 w1.heap.size∧wr.heap[w1.heap.size]?=some (boxOf x (.slice ra1 x.ranges.length rc1,.slice pa1 x.parts.length pc1))∧∀ r L',Md T (.alt (x.parts.drop j) acc) to L1 r L'→Md T (.alt x.parts []) to L r L')
    (fun _ i _=>x.parts.length - (intOf i).toNat)
  case atStart =>
    exact ⟨0,[],L,S,M,Nat.zero_le _,rfl,Loc.nil _ _ _,rfl,hS.below HZ.out.1,(Evo.refl _ _).of_below HZ.out.1,fun _ h=>.inl h,ht,by rw [List.drop_zero,← hpl];exact hbd,fun h=>by have:=hS.lt _ h;omega,HZ.out.2,fun r L' h=>by rw [List.drop_zero] at h;exact h⟩
  case round =>
    clear c5 d0 d1 d2 d3 d4
    obtain ⟨j,acc,L1,S1,M1,hj,rfl,hL1,hal,hS1,hE1,hn1,ht1,hb1',hnS,hbox,k1⟩:=hrel
    have HK:Hid _:=k1
    clear k1
    have cb3:=cell_blk hbox 3 (.slice pa1 x.parts.length pc1) rfl
    have hlb:=lt_of_block hbox
    obtain ⟨la,lc,hle⟩:=own_len hL1.own
    subst hle
    have HAL:Hid (acc.length=j):=hal
    by_cases hlt:j < x.parts.length
    · have hpj:x.parts[j]?=some (x.parts[j]'hlt):=List.getElem?_eq_getElem _
      generalize x.parts[j]'_=p at hpj
      have hpp:=hpn p (List.mem_of_getElem? hpj)
      have hop:=own_same hnd1.op (fun k e=>(hE1.kept.block k (hnd1.op.lt k e).2 (hpM k e)))
      obtain ⟨gp,capp,hvp,_,_⟩:=hop.form (by omega)
      simp only [Value.slice.injEq] at hvp
      obtain ⟨rfl,_,rfl⟩:=hvp
      have cp:wr.cell? ⟨gp,j,none⟩=some (.int .i64 (p:Int)):=own_cell' hop j (by simp [ints,hpj])
      obtain ⟨hdr,hpt⟩:=pls_drop T x.parts j p hpj
      have hNp:=hIH p (by omega) wr S1 M1 L1 B F to hS1 ht1 (by omega)
      have HDR:Hid _:=hdr
      have hacl:acc.length≤20000:=by omega
      clear hdr hal
      go_wp2_with (first
        | (go_at_call 114
           refine hNp.mono ?_
           rintro e w3 ⟨r3,L3,S3,M3,rfl,hmd,hS3,hE3,hn3⟩
           have hL3:=hL1.evoSa hS1.ms hE3 hn3
           have hbox3:w3.heap[w1.heap.size]?=_:=(hE3.kept.block w1.heap.size hlb (fun h=>hnS (hS1.ms _ h))).trans hbox
           have hnS3:¬ S3 w1.heap.size:=fun h2=>by
             rcases hn3 _ h2 with h | h
             · exact hnS h
             · omega
           have hlb3:=lt_of_block hbox3)
        | (at_builtin
           refine wpList_append_own_at _ rfl (.tmp 73) (.tmp 75) 33 rfl (w1.heap.size + 1) 3 i0 (.int .i64 0) 1 8 Tryz.underlying33 hi hz0 hz1 hz2 rfl (by decide) _ _ _ rfl (hL3.own.alloc _) ⟨w3.heap.size,0,none⟩ 1 1 [.int .i64 (r3:Int)] rfl rfl (cell_one_new _ _ _) (fun y hy=>by simp at hy;subst hy;rfl) (by unfold maxLen;omega) (by omega) (by simp;omega) ?_
           intro v1 w4 hn4 hg4 _ hat4
           obtain ⟨hL4,hS4,hE4,hk4⟩:=hL3.addSa hS3 r3 ((Kept.refl _ _).alloc _) (by simp) hn4 hg4 hat4
           have HX:Hid _:=And.intro hmd (And.intro hL4 (And.intro hS4 (And.intro (hE4 w M (hE1.trans hE3) (by omega)) (And.intro hn3 (And.intro hnS3 ((hk4 w1.heap.size hlb3 (fun e=>by have:=(hL3.own.lt _ e).1;omega)).trans hbox3))))))
           clear hn4 hg4 hat4 hL4 hS4 hE4 hk4 hmd hL3 hn3 hbox3 hnS3))
      go_roundw
      case rel =>
        obtain ⟨hmd,hL4,hS4,hE4,hn3,hnS3,hbox3⟩:=HX.out
        have hf:=hmd.fine hT (by show p < T.length;omega) ht1
        have hsl:=sl_ge T p
        have hb3:L3.length + (MT.node p).sl T≤L1.length + 4 * G.pl T p:=hf.2.2.1
        have hll:=hf.1
        refine ⟨j + 1,acc ++ [r3],L3,S3,M3,by omega,by go_num,hL4,by simp [HAL.out],hS4,hE4,fun k hk=>?_,by omega,by omega,hnS3,hbox3,fun r L' h=>HK.out r L' (by rw [HDR.out];exact Md.altCons hmd h)⟩
        rcases hn3 k hk with h | h
        · exact hn1 k h
        · exact .inr (Nat.le_trans hE1.kept.size h)
      case measure=>simp [intOf];omega
    · have e:j=x.parts.length:=by omega
      have hmd:Md T (.alt x.parts []) to L (.many acc) L1:=HK.out _ _ (by rw [e,List.drop_length];exact Md.altNil)
      have HMD:Hid _:=HM.out _ _ hmd
      have hL1l:L1.length≤20000:=by omega
      clear hmd HK hal e
      have hSt:=state_any wr b S1 M1 T Q L1 B F hS1 ⟨-1,acc⟩ la lc (own_zero hL1.own) hL1.out (by omega)
      go_wp2_with (go_at_call 113;refine hSt.mono ?_;rintro e w5 ⟨rfl,S5,M5,hS5,hk5,hn5⟩)
      go_ret
      refine ⟨L1.length,_,S5,M5,rfl,HMD.out,hS5,hE1.trans hk5,fun k hk=>?_⟩
      rcases hn5 k hk with h | h | h
      · exact hn1 k h
      · exact .inr (by have:=(hL1.own.lt k h).1;omega)
      · exact .inr (Nat.le_trans hE1.kept.size h)
end Rf
end Go.Proofs.YtpgcidpghmoibaaGreatDoor

namespace Go.Proofs.YtpgcidpghmoibaaGreatDoor
namespace Rf
open Go.RowKit
open G (PNode)
theorem rep_lt {T:List PNode} (hT:G.WF T) {n k:Nat} {x:PNode} (hx:T[n]?=some x) (hr:G.reps x=true):(G.rep T k n).2 < n:=by
  have hn:n < T.length:=(List.getElem?_eq_some_iff.1 hx).1
  obtain ⟨p,hp,hpn⟩:=G.reps_one hT hx hr
  rw [G.rep_step hT hx hr hp]
  have h1:=G.bare_le hT p
  have h2:=(G.pl_rep hT (G.bare T p) (G.mix k x.kind) (by omega)).2
  omega
set_option maxRecDepth 100000 in
set_option maxHeartbeats 2000000 in
theorem made_opt (b:Nat) (T:List PNode) (Q:List Nat) (n:Nat) (x:PNode) (hT:G.WF T) (htl:T.length≤100000) (hn:n < T.length) (hx:T[G.bare T n]?=some x) (hrp:G.reps x=true) (q:Nat) (hq:G.rep T x.kind (G.bare T n)=(63,q)) (hIH:∀ m,m < n→MadeAt b T Q m):MadeAt b T Q n:=by
  intro w S M L B F to hS ht hbd
  obtain ⟨cs,vN,vR,V,hRo,_⟩:=hS.ro
  have hN:=bare_any w b T Q n cs vN vR V hRo hT htl hn
  have hble:=G.bare_le hT n
  have hqlt:q < G.bare T n:=by have:=rep_lt (k:=x.kind) hT hx hrp;rw [hq] at this;exact this
  have hplq:G.pl T q=G.pl T n:=by
    have:=(G.pl_rep hT (G.bare T n) x.kind (by omega)).1
    rw [hq,G.pl_bare hT n hn] at this
    exact this
  have HM:Hid (∀ p L',Md T (.node q) to L (.one p) L'→Md T (.node n) to L (.one L'.length) (L' ++ [⟨-1,[p,to]⟩])):=fun p L' h=>Md.opt hx hrp hq h
  obtain ⟨hk1,hk2,hk3⟩:((x.kind:Int) == 115)=false∧((x.kind:Int) == 113)=false∧((x.kind:Int) == 99)=false:=by
    have h:=hrp
    simp only [G.reps,Bool.or_eq_true,decide_eq_true_eq] at h
    exact ⟨by simp;omega,by simp;omega,by simp;omega⟩
  obtain ⟨g,cap,hv,_,_⟩:=hRo.oN.form (by omega)
  subst hv
  have hgl:g < w.heap.size:=(hRo.oN.lt g rfl).2
  obtain ⟨ra1,rc1,pa1,pc1,hnd1⟩:=hRo.node hx
  have hmT:G.bare T n < T.length:=(List.getElem?_eq_some_iff.1 hx).1
  generalize G.bare T n=m at *
  go_enter Tryz.func114,Tryz.ntmps114
  go_wp2_with (first
    | (go_at_call 113;refine hSt.mono ?_;rintro e w5 ⟨rfl,S5,M5,hS5,hk5,hn5⟩)
    | (go_at_call 114
       refine hNq.mono ?_
       rintro e w3 ⟨r3,L3,S3,M3,rfl,hmd,hS3,hE3,hn3⟩
       have hf:=hmd.fine hT (by show q < T.length;omega) ht
       have hb3:L3.length + (MT.node q).sl T≤L.length + 4 * G.pl T q:=hf.2.2.1
       have hrow:=own_new w3 0 3 1 2 #[.int .i64 (r3:Int),.int .i64 (to:Int)] (Nat.zero_le _) rfl (by unfold maxLen;omega)
       have hba:Below w3.heap.size w3 (w3.alloc (.cells #[.int .i64 (r3:Int),.int .i64 (to:Int)] 3)):=(Below.refl _ _).alloc (Nat.le_refl _) _
       have hSt:=state_any _ b S3 M3 T Q L3 B F (hS3.below hba) ⟨-1,[r3,to]⟩ (some ⟨w3.heap.size,0,none⟩) 2 hrow (fun j e h2=>by have:=hS3.lt j h2;simp [Value.ownBlock] at e;omega) (by omega)
       have HMD:Hid _:=HM.out _ _ hmd
       clear hmd hf hb3 hrow)
    | (go_at_call 137
       refine hNr.mono ?_
       rw [hq]
       rintro e w2 ⟨rfl,hb2⟩
       have hbw:=hbz.trans (hb2.mono hbz.size)
       have hNq:=hIH q (by omega) w2 S M L B F to (hS.below hbw) ht (by omega))
    | (go_at_call 136
       refine hN.mono ?_
       rintro e w1 ⟨rfl,hb1⟩
       have hRo1:=hRo.below hb1
       have c5:=cell_blk hRo1.blk 5 _ hRo1.c5
       obtain ⟨d0,d1,d2,d3,d4,op1⟩:=hnd1.below hb1 hgl
       have hbz:Below w.heap.size w (w1.alloc (.cells #[.int .u8 (x.kind:Int),.slice ra1 x.ranges.length rc1,.bool x.other,.slice pa1 x.parts.length pc1,.int .i64 (x.size:Int)] 118)):=hb1.alloc hb1.size _
       have hNr:=rep_any _ b T Q m x cs _ vR V (hRo.below hbz) hT htl hx hrp))
  go_ret
  refine ⟨L3.length,_,S5,M5,rfl,HMD.out,hS5,((((Evo.refl w M).of_below hbw).trans hE3).of_below hba).trans hk5,fun k hk=>?_⟩
  have hz1:=hbw.size
  have hz2:=hE3.kept.size
  rcases hn5 k hk with h | h | h
  · rcases hn3 k h with h | h
    · exact .inl h
    · exact .inr (by omega)
  · simp [Value.ownBlock] at h
    exact .inr (by omega)
  · simp at h
    exact .inr (by omega)
end Rf
end Go.Proofs.YtpgcidpghmoibaaGreatDoor
