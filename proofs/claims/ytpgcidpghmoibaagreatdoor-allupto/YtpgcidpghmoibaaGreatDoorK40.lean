/-
  THE PROGRAM's READER
  THE PROGRAM's READER
  THE PROGRAM's RULES, asked
-/
import Derived.Test.YtpgcidpghmoibaaGreatDoorK39
import Derived.Test.YtpgcidpghmoibaaGreatDoorK08
import Derived.Test.YtpgcidpghmoibaaGreatDoorK35
namespace Go.Proofs.YtpgcidpghmoibaaGreatDoor
namespace Pr
open Go.RowKit Go.Maps
open Rf (Kept)
open G (PNode)
structure FS (w:World) (b:Nat) (s:ByteArray) (c:C) (bm:Nat) (vR:Value) (I:Nat→Prop) (T:List PNode) (B:List Nat) (E:List (ByteArray × Nat)) (Q:List Nat):Prop where
  ps:PS w b s c bm vR I T B E
  row:w.ownsRow 0 143 1 vR Q.length (ptrs B Q)
  rq:∀ q ∈ Q,q < T.length
  out:∀ k,vR.ownBlock=some k→k ≠ b∧k ≠ bm∧¬ I k∧Own k
  om:Own bm
theorem FS.gr {w w':World} {b:Nat} {s:ByteArray} {c c':C} {bm:Nat} {vR:Value} {I I':Nat→Prop} {T T':List PNode} {B B':List Nat} {E:List (ByteArray × Nat)} {Q:List Nat} (h:FS w b s c bm vR I T B E Q) (hg:Gr b w w') (hP:PS w' b s c' bm vR I' T' B' E) (hX:Ext w I B I' B') (hT:T.length≤T'.length):FS w' b s c' bm vR I' T' B' E Q where
  ps:=hP
  row:=by
    rw [hX.ptrs (fun p hp=>by rw [h.ps.tr.len];exact h.rq p hp)]
    exact Rf.own_same h.row (fun k e=>hg.block k (h.row.lt k e).2 (h.out k e).1)
  rq q hq:=by have:=h.rq q hq;omega
  out k e:=by
    obtain ⟨h1,h2,h3,h4⟩:=h.out k e
    refine ⟨h1,h2,fun hI=>?_,h4⟩
    rcases hX.new k hI with h5 | h5
    · exact h3 h5
    · have:=(h.row.lt k e).2
      omega
  om:=h.om
def Kb (base:Nat) (w w':World):Prop:=Kept (fun k=>k < base) w w'
theorem Kb.of_gr {base b:Nat} {w w':World} (h:Gr b w w') (hb:base≤b):Kb base w w':=h.mono (fun k _ hk=>by omega)
theorem Kb.trans {base:Nat} {a b c:World} (h:Kb base a b) (g:Kb base b c):Kb base a c:=Kept.trans h g
def SPost (base:Nat) (w:World) (b:Nat) (s:ByteArray) (c:C) (bm:Nat) (vR:Value) (E:List (ByteArray × Nat)) (Q:List Nat) (r:G.SRes) (e:Ending) (w':World):Prop:=
  Kb base w w'∧match r with
    | .rule n j T'=>e=.returned (.bool true)∧∃ vR' I' B',FS w' b s { c with i:=G.skip s j } bm vR' I' T' B' E (Q ++ [n])∧∀ k,vR'.ownBlock=some k→base≤k
    | .defn nm n j T'=>e=.returned (.bool true)∧∃ I' B',FS w' b s { c with i:=G.skip s j } bm vR I' T' B' (E ++ [(nm,n)]) Q
    | .err er p=>e=.returned (.bool false)∧∃ i d vR',RB w' b s ⟨i,d,p,er⟩ (.map (some bm)) vR'
theorem EnvAt.put {w w1:World} {bm:Nat} {E:List (ByteArray × Nat)} {B:List Nat} {D:DataW Value} {n:Nat} {nm:ByteArray} {p:Nat}
    (hown:w.ownsMap Tryz.prog 9 heldR bm n D) (hn:n≤E.length) (hD:∀ nm:ByteArray,nm.size≤maxLen→D.atKey (.string nm.data.toList) (.held (.pointer none))=.held (envV E B nm)) (hl:G.lookup E nm=none)
    (hown1:w1.ownsMap Tryz.prog 9 heldR bm (n + 1) (D.put (.string nm.data.toList) (.held (pv (bl B p))))):EnvAt w1 bm (E ++ [(nm,p)]) B:=by
  refine ⟨_,_,hown1,by simp;omega,fun nm' hn'=>?_⟩
  by_cases he:nm'=nm
  · subst he
    rw [atKey_put_same hown.isMap (show WideAt.IsKeyLit (Lit.string nm'.data.toList) from trivial)]
    unfold envV
    have:G.lookup (E ++ [(nm',p)]) nm'=some p:=by
      unfold G.lookup at hl ⊢
      rw [List.find?_append]
      cases hf:E.find? fun x=>decide (x.1=nm') with
      | none=>simp
      | some y=>rw [hf] at hl;cases hl
    rw [this]
  · have hne:(Lit.string nm'.data.toList) ≠ .string nm.data.toList:=by
      intro e
      apply he
      have e2:nm'.data.toList=nm.data.toList:=by injection e
      have e3:nm'.data=nm.data:=Array.toList_inj.1 e2
      cases nm'
      cases nm
      simp only at e3
      rw [e3]
    rw [atKey_put_other hne,hD nm' hn']
    unfold envV
    have:G.lookup (E ++ [(nm,p)]) nm'=G.lookup E nm':=by
      unfold G.lookup
      rw [List.find?_append]
      have h0:([(nm,p)]:List (ByteArray × Nat)).find? (fun x=>decide (x.1=nm'))=none:=by
        simp [Ne.symm he]
      rw [h0]
      simp
    rw [this]
theorem FS.map {w w1:World} {b:Nat} {s:ByteArray} {c:C} {bm:Nat} {vR:Value} {I:Nat→Prop} {T:List PNode} {B:List Nat} {E E':List (ByteArray × Nat)} {Q:List Nat} (h:FS w b s c bm vR I T B E Q) (hg:w.grownBy w1 (some bm)) (hE:EnvAt w1 bm E' B) (he:∀ x ∈ E',x.2 < T.length):FS w1 b s c bm vR I T B E' Q:=by
  have hk:∀ k,k < w.heap.size→k ≠ bm→w1.heap[k]?=w.heap[k]?:=fun k hk hn=>hg.block k hk (fun e=>hn (by simpa using e))
  have hkp:Kept (fun k=>k ≠ bm) w w1:=⟨hg.os,hg.tape,hg.output,hg.size,hk⟩
  exact {
    ps:={
      rb:=h.ps.rb.kept hkp (Ne.symm h.ps.bb)
      tr:=h.ps.tr.same hg.size (fun k hI=>hk k (h.ps.tr.lt k hI) (fun e=>h.ps.nm (e ▸ hI)))
      env:=hE
      tab:=h.ps.tab.kept hkp (Ne.symm h.om.1) (Ne.symm h.om.2.1) (Ne.symm h.om.2.2)
      own:=h.ps.own,nb:=h.ps.nb,nm:=h.ps.nm,bb:=h.ps.bb,wf:=h.ps.wf,el:=he,ci:=h.ps.ci,sz:=h.ps.sz }
    row:=Rf.own_same h.row (fun k e=>hk k (h.row.lt k e).2 (h.out k e).2.1)
    rq:=h.rq,out:=h.out,om:=h.om }
theorem FS.expr {w:World} {b:Nat} {s:ByteArray} {c:C} {bm:Nat} {vR:Value} {I:Nat→Prop} {T:List PNode} {B:List Nat} {E:List (ByteArray × Nat)} {Q:List Nat} (h:FS w b s c bm vR I T B E Q) (hd:c.d=0) {i:Nat} {r:G.Res} (hi:c.i=G.skip s i) (hr:G.R s E (.expr []) 0 i T r) :
    Calls Tryz.prog 102 #[.pointer (some ⟨b,0,none⟩)] w fun e w'=>RPost w b s c bm vR I B E r e w':=
  expr_all b s bm vR E 40 0 (by omega) (by omega) w c I T B i r h.ps hd hi hr
theorem expr_len {s:ByteArray} {E:List (ByteArray × Nat)} {d i n j:Nat} {T T':List PNode} (h:G.R s E (.expr []) d i T (.ok n j T')) (hi:i≤s.size) (hT:G.WF T) (hE:∀ x ∈ E,x.2 < T.length):T.length≤T'.length∧n < T'.length∧j≤s.size:=by
  obtain ⟨_,f2,f3,_,⟨X,hX⟩,_⟩:=h.fine hi hT (by simp [G.NT.parts]) (by simp [G.NT.ranges]) hE
  exact ⟨by rw [hX];simp,f3,f2⟩
set_option maxRecDepth 100000 in
set_option maxHeartbeats 2000000 in
theorem def_any (base:Nat) (w:World) (b:Nat) (s:ByteArray) (c:C) (bm:Nat) (vR:Value) (I:Nat→Prop) (T:List PNode) (B:List Nat) (E:List (ByteArray × Nat)) (Q:List Nat) (k:Nat) (nm:ByteArray) (r:G.SRes) (h:FS w b s c bm vR I T B E Q) (hb:base≤b) (hm:base≤bm) (hd:c.d=0) (hEl:E.length≤100000) (hnm:nm.size≤2000)
    (hi:c.i=G.skip s (G.skip s (G.wend s (k + 1)) + 1)) (hil:G.skip s (G.wend s (k + 1)) + 1≤s.size) (hname:nm=G.name s k) (hh:G.Head s k) (hr:G.Stm s E k T r) :
    Calls Tryz.prog 101 #[.pointer (some ⟨b,0,none⟩),.int .i64 (k:Int),.string nm] w fun e w'=>SPost base w b s c bm vR E Q r e w':=by
  have hs:=h.ps.sz
  have hlook:=h.ps.env.look nm (by unfold maxLen;omega)
  obtain ⟨c0,c1,c2,c3,c4,c5,c6,fr⟩:=h.ps.rb.reads
  have hcase:(∃ m,G.lookup E nm=some m∧r=.err 3 k) ∨ (G.lookup E nm=none∧((∃ er p,r=.err er p∧G.R s E (.expr []) 0 (G.skip s (G.wend s (k + 1)) + 1) T (.err er p)) ∨ ∃ n j T',G.R s E (.expr []) 0 (G.skip s (G.wend s (k + 1)) + 1) T (.ok n j T')∧((G.pk s (G.skip s j) ≠ 59∧r=.err 2 (G.skip s j)) ∨ (G.pk s (G.skip s j)=59∧r=.defn nm n (G.skip s j + 1) T')))):=by
    rw [hname]
    cases hr with
    | ruleErr h1=>exact absurd hh h1
    | ruleForm h1=>exact absurd hh h1
    | rule h1=>exact absurd hh h1
    | dup _ h2=>exact .inl ⟨_,h2,rfl⟩
    | defErr _ h2 h3=>exact .inr ⟨h2,.inl ⟨_,_,rfl,h3⟩⟩
    | defForm _ h2 h3 h4=>exact .inr ⟨h2,.inr ⟨_,_,_,h3,.inl ⟨h4,rfl⟩⟩⟩
    | defn _ h2 h3 h4=>exact .inr ⟨h2,.inr ⟨_,_,_,h3,.inr ⟨h4,rfl⟩⟩⟩
  clear hr hname
  rcases hcase with ⟨m,hlo,rfl⟩ | ⟨hlo,hcase⟩
  · have hv:envV E B nm=pv (bl B m):=by rw [envV,hlo]
    rw [hv] at hlook
    clear hi hd hv
    go_enter Tryz.func101,Tryz.ntmps101
    go_wp2_with (go_at_call 127;refine (fail_any w b s c _ vR k 3 h.ps.rb).mono ?_;rintro e w2 ⟨rfl,hR2,hE2⟩)
    go_ret
    exact ⟨Kb.of_gr hE2.kept hb,rfl,_,_,_,hR2⟩
  · have hv:envV E B nm=.pointer none:=by rw [envV,hlo]
    rw [hv] at hlook
    rcases hcase with ⟨er,p,rfl,hR⟩ | ⟨n,j,T',hR,hc⟩
    · have hX:=h.expr hd hi hR
      clear hi hd hv
      go_enter Tryz.func101,Tryz.ntmps101
      go_wp2_with (go_at_call 102;refine hX.mono ?_;rintro e w3 ⟨hg3,rfl,i3,d3,hR3⟩)
      go_ret
      exact ⟨Kb.of_gr hg3 hb,rfl,_,_,_,hR3⟩
    · have hX:=h.expr hd hi hR
      obtain ⟨hl1,hl2,hl3⟩:=expr_len hR hil h.ps.wf h.ps.el
      clear hi hd hv
      rcases hc with ⟨h59,rfl⟩ | ⟨h59,rfl⟩
      · go_enter Tryz.func101,Tryz.ntmps101
        go_wp2_with (first
          | (go_at_call 103;refine (expect_not w3 b s _ _ vR 59 (by omega) hP3.rb hs hP3.ci h59).mono ?_;rintro e w4 ⟨rfl,hR4,hE4⟩)
          | (go_at_call 102;refine hX.mono ?_;rintro e w3 ⟨hg3,I',B',rfl,hP3,hX3⟩))
        go_ret
        exact ⟨Kb.of_gr (hg3.trans hE4.kept) hb,rfl,_,_,_,hR4⟩
      · have hlt:=G.lt_of_pk (s:=s) (i:=G.skip s j) (by omega)
        go_enter Tryz.func101,Tryz.ntmps101
        go_wp2_with (first
          | (at_mapUpdate
             obtain ⟨D,nn,ho,hn,hD⟩:=HF.out.ps.env
             refine wpList_mapUpdate_own _ rfl _ _ _ 140 rfl 9 143 keyLaw Tryz.underlying140 heldR bm nn D rfl ho (by unfold maxLen;omega) _ _ (.string nm.data.toList) rfl rfl (Go.WideMaps.keyOf_string_mk Tryz.underlying9 (by unfold maxLen;omega)) (.held (pv (bl B' n))) [] rfl ?_
             intro w5 ho5 hg5
             have HM:Hid _:=EnvAt.put (p:=n) ho hn hD hlo ho5
             clear ho hn hD ho5)
          | (go_at_call 103;refine (expect_yes w3 b s _ _ vR 59 (by omega) hP3.rb hs hP3.ci h59).mono ?_;rintro e w4 ⟨rfl,hR4,hE4⟩;have HF:Hid _:=FS.gr h (hg3.trans hE4.kept) (hP3.step hE4.kept hR4 (G.skip_le s _ hlt)) hX3 hl1;clear c0 c1 c2 c3 c4 c5 c6 fr;obtain ⟨c0,c1,c2,c3,c4,c5,c6,fr⟩:=hR4.reads)
          | (go_at_call 102;refine hX.mono ?_;rintro e w3 ⟨hg3,I',B',rfl,hP3,hX3⟩))
        go_ret
        have hgm:Kb base w4 w5:=⟨hg5.os,hg5.tape,hg5.output,hg5.size,fun q hq hqb=>hg5.block q hq (fun e=>by have h1:q=bm:=(by simpa using e);omega)⟩
        refine ⟨(Kb.of_gr (hg3.trans hE4.kept) hb).trans hgm,rfl,I',B',HF.out.map hg5 HM.out ?_⟩
        intro x hx
        rcases List.mem_append.1 hx with hx | hx
        · have:=h.ps.el x hx
          omega
        · simp only [List.mem_singleton] at hx
          subst hx
          exact hl2
theorem infoPp:(Tryz.prog.info? 143).map (fun i=>(i.zero,i.size,i.bytes))=some (some (.pointer none),1,8):=by kernel_rfl
theorem FS.push {w w6:World} {b:Nat} {s:ByteArray} {c:C} {bm:Nat} {vR v1:Value} {I:Nat→Prop} {T:List PNode} {B:List Nat} {E:List (ByteArray × Nat)} {Q:List Nat} {n base:Nat} {o:Obj} (h:FS w b s c bm vR I T B E Q) (hn:n < T.length) (hB:Base w.heap.size b bm) (hn1:w6.ownsRow 0 143 1 v1 (Q.length + 1) (ptrs B Q ++ [pv (bl B n)])) (hg:(w.alloc o).grownBy w6 vR.ownBlock) (hat:v1.ownBlock=vR.ownBlock ∨ v1.ownBlock=some (w.alloc o).heap.size) (hbase:∀ k,vR.ownBlock=some k→base≤k) (hbw:base≤w.heap.size) :
    FS (w6.setCell ⟨b,4,none⟩ v1) b s c bm v1 I T B E (Q ++ [n])∧(∀ k,v1.ownBlock=some k→base≤k)∧(base≤b→Kb base w (w6.setCell ⟨b,4,none⟩ v1)):=by
  have hv1:∀ k,v1.ownBlock=some k→vR.ownBlock=some k ∨ k=w.heap.size + 1:=fun k e=>by
    rcases hat with e2 | e2
    · exact .inl (e2 ▸ e)
    · right
      rw [e] at e2
      simpa using e2
  have hP6:=grow_ps h.ps hg (fun k e=>(h.out k e).2.2.1) (fun e=>(h.out b e).1 rfl) (fun e=>(h.out bm e).2.1 rfl) (fun k e=>(h.out k e).2.2.2)
  have hne:∀ k,v1.ownBlock=some k→k ≠ b∧k ≠ bm∧¬ I k∧Own k:=fun k e=>by
    rcases hv1 k e with e2 | rfl
    · exact h.out k e2
    · have h1:=hB.b
      have h2:=hB.m
      exact ⟨by omega,by omega,fun hI=>by have:=h.ps.tr.lt _ hI;omega,hB.t _ (by omega)⟩
  have hrb:RB (w6.setCell ⟨b,4,none⟩ v1) b s c (.map (some bm)) v1:=hP6.rb.num 4 v1 rfl
  have hG:Gr b w6 (w6.setCell ⟨b,4,none⟩ v1):=Gr.set (Kept.refl _ w6) 4 v1
  refine ⟨{ ps:=⟨hrb,hP6.tr.gr hG hP6.nb,hP6.env.kept (hG.block bm hP6.env.lt hP6.bb),hP6.tab.gr hG hP6.own,hP6.own,hP6.nb,hP6.nm,hP6.bb,hP6.wf,hP6.el,hP6.ci,hP6.sz⟩,row:=?_,rq:=lt_snoc2 h.rq (Nat.le_refl _) hn,out:=hne,om:=h.om },?_,?_⟩
  · rw [ptrs_snoc]
    have h3:w6.ownsRow 0 143 1 v1 (Q ++ [n]).length (ptrs B Q ++ [pv (bl B n)]):=by simpa using hn1
    exact Rf.own_same h3 (fun k e=>Rf.blk_ne _ (hne k e).1)
  · intro k e
    rcases hv1 k e with e2 | rfl
    · exact hbase k e2
    · omega
  · intro hbb
    have h6:Kb base w w6:=((Kept.refl _ w).alloc o).grown hg (fun k e _=>by have:=hbase k e;omega)
    exact h6.trans (Kb.of_gr hG hbb)
set_option maxRecDepth 100000 in
set_option maxHeartbeats 2000000 in
theorem stm_any (base:Nat) (w:World) (b:Nat) (s:ByteArray) (c:C) (bm:Nat) (vR:Value) (I:Nat→Prop) (T:List PNode) (B:List Nat) (E:List (ByteArray × Nat)) (Q:List Nat) (r:G.SRes) (h:FS w b s c bm vR I T B E Q) (hb:base≤b) (hm:base≤bm) (hvb:∀ k,vR.ownBlock=some k→base≤k) (hd:c.d=0) (hEl:E.length≤100000) (hQl:Q.length≤100000) (hsk:G.skip s c.i=c.i) (hr:G.Stm s E c.i T r) :
    Calls Tryz.prog 77 #[.pointer (some ⟨b,0,none⟩)] w fun e w'=>SPost base w b s c bm vR E Q r e w':=by
  have hs:=h.ps.sz
  obtain ⟨i0,hi,hz0,hz1,hz2⟩:=info_parts infoPp
  obtain ⟨c0,c1,c2,c3,c4,c5,c6,fr⟩:=h.ps.rb.reads
  have HD:Hid (c.d=0):=hd
  have HK:Hid (G.skip s c.i=c.i):=hsk
  clear hd hsk
  by_cases hh:G.Head s c.i
  · have hlt:=G.lt_of_pk (s:=s) (i:=c.i) (by have:=hh.1;omega)
    have hlt2:=G.lt_of_pk (s:=s) (i:=G.skip s (G.wend s (c.i + 1))) (by have:=hh.2.2;omega)
    have hnz:=name_size s c.i hlt
    have hwl:=G.wend_le s (c.i + 1) (by omega)
    have hDA:=dahead_yes w b s c _ vR h.ps.rb hs hh
    have hemp:=name_some hlt hh.2.1
    have hDf:∀ w1,FS w1 b s { c with i:=G.skip s (G.skip s (G.wend s (c.i + 1)) + 1) } bm vR I T B E Q→_:=fun w1 h1=>def_any base w1 b s _ bm vR I T B E Q c.i (G.name s c.i) r h1 hb hm HD.out hEl (by omega) rfl hlt2 rfl hh hr
    generalize G.name s c.i=nm at *
    clear hnz
    go_enter Tryz.func77,Tryz.ntmps77
    go_wp2_with (first
      | (go_at_call 101;refine (hDf w1 h1).mono ?_;rintro e w2 hpo;have HPo:Hid (SPost base w1 b s { c with i:=G.skip s (G.skip s (G.wend s (c.i + 1)) + 1) } bm vR E Q r e w2):=hpo;obtain ⟨g1,g2⟩:=hpo;cases r
         case' rule n j T'=>obtain ⟨rfl,_⟩:=g2
         case' defn nm2 n j T'=>obtain ⟨rfl,_⟩:=g2
         case' err er pl=>obtain ⟨rfl,_⟩:=g2)
      | (go_at_call 100;refine hDA.mono ?_;rintro e w1 ⟨rfl,hR1,hE1⟩;have h1:=FS.gr h hE1.kept (h.ps.step hE1.kept hR1 (G.skip_le s _ hlt2)) (Ext.refl _ _ _) (Nat.le_refl _)))
    all_goals go_ret
    all_goals exact ⟨(Kb.of_gr hE1.kept hb).trans HPo.out.1,HPo.out.2⟩
  · have hDA:=dahead_not w b s c _ vR h.ps.rb hs h.ps.ci hh
    have hcase:(∃ er p,r=.err er p∧G.R s E (.expr []) 0 c.i T (.err er p)) ∨ ∃ n j T',G.R s E (.expr []) 0 c.i T (.ok n j T')∧((G.pk s (G.skip s j) ≠ 59∧r=.err 2 (G.skip s j)) ∨ (G.pk s (G.skip s j)=59∧r=.rule n (G.skip s j + 1) T')):=by
      cases hr with
      | ruleErr _ h2=>exact .inl ⟨_,_,rfl,h2⟩
      | ruleForm _ h2 h3=>exact .inr ⟨_,_,_,h2,.inl ⟨h3,rfl⟩⟩
      | rule _ h2 h3=>exact .inr ⟨_,_,_,h2,.inr ⟨h3,rfl⟩⟩
      | dup h1=>exact absurd h1 hh
      | defErr h1=>exact absurd h1 hh
      | defForm h1=>exact absurd h1 hh
      | defn h1=>exact absurd h1 hh
    clear hr
    rcases hcase with ⟨er,p,rfl,hR⟩ | ⟨n,j,T',hR,hc⟩
    · go_enter Tryz.func77,Tryz.ntmps77
      go_wp2_with (first
        | (go_at_call 102;refine hX.mono ?_;rintro e w3 ⟨hg3,rfl,i3,d3,hR3⟩)
        | (go_at_call 100;refine hDA.mono ?_;rintro e w1 ⟨rfl,hR1,hE1⟩;have h1:=FS.gr h hE1.kept (h.ps.step hE1.kept hR1 h.ps.ci) (Ext.refl _ _ _) (Nat.le_refl _);have hX:=h1.expr HD.out HK.out.symm hR))
      go_ret
      exact ⟨Kb.of_gr (hE1.kept.trans hg3) hb,rfl,_,_,_,hR3⟩
    · obtain ⟨hl1,hl2,hl3⟩:=expr_len hR h.ps.ci h.ps.wf h.ps.el
      rcases hc with ⟨h59,rfl⟩ | ⟨h59,rfl⟩
      · go_enter Tryz.func77,Tryz.ntmps77
        go_wp2_with (first
          | (go_at_call 103;refine (expect_not w3 b s _ _ vR 59 (by omega) hP3.rb hs hP3.ci h59).mono ?_;rintro e w4 ⟨rfl,hR4,hE4⟩)
          | (go_at_call 102;refine hX.mono ?_;rintro e w3 ⟨hg3,I',B',rfl,hP3,hX3⟩)
          | (go_at_call 100;refine hDA.mono ?_;rintro e w1 ⟨rfl,hR1,hE1⟩;have h1:=FS.gr h hE1.kept (h.ps.step hE1.kept hR1 h.ps.ci) (Ext.refl _ _ _) (Nat.le_refl _);have hX:=h1.expr HD.out HK.out.symm hR))
        go_ret
        exact ⟨Kb.of_gr ((hE1.kept.trans hg3).trans hE4.kept) hb,rfl,_,_,_,hR4⟩
      · have hlt:=G.lt_of_pk (s:=s) (i:=G.skip s j) (by omega)
        obtain ⟨va,vc,hve⟩:=Rf.own_len h.row
        subst hve
        have hbw:=h.ps.rb.lt
        go_enter Tryz.func77,Tryz.ntmps77
        go_wp2_with (first
          | (at_builtin
             refine wpList_append_own_at _ rfl (.tmp 31) (.tmp 33) 105 rfl 0 143 i0 (.pointer none) 1 8 Tryz.underlying105 hi hz0 hz1 hz2 rfl (by decide) (.slice va Q.length vc) Q.length (ptrs B' Q) rfl (HF.out.row.alloc _) ⟨w4.heap.size,0,none⟩ 1 1 [pv (bl B' n)] rfl rfl (cell_one_new _ _ _) (fun y hy=>by simp at hy;subst hy;rfl) (by unfold maxLen;omega) (by omega) (Nat.zero_le _) ?_
             intro v1 w6 hn1 hg6 _ hat1
             obtain ⟨ya,yc,hye⟩:=Rf.own_len hn1
             subst hye
             have HPU:Hid _:=FS.push (base:=base) HF.out hl2 HF.out.ps.base hn1 hg6 hat1 hvb (by omega)
             have hr6:=(grow_ps HF.out.ps hg6 (fun k e=>(HF.out.out k e).2.2.1) (fun e=>(HF.out.out b e).1 rfl) (fun e=>(HF.out.out bm e).2.1 rfl) (fun k e=>(HF.out.out k e).2.2.2)).rb.reads
             clear c0 c1 c2 c3 c4 c5 c6 fr
             obtain ⟨c0,c1,c2,c3,c4,c5,c6,fr⟩:=hr6
             clear hn1 hg6 hat1)
          | (go_at_call 103;refine (expect_yes w3 b s _ _ _ 59 (by omega) hP3.rb hs hP3.ci h59).mono ?_;rintro e w4 ⟨rfl,hR4,hE4⟩;have HF:Hid _:=FS.gr h ((hE1.kept.trans hg3).trans hE4.kept) (hP3.step hE4.kept hR4 (G.skip_le s _ hlt)) (hX3.low hE1.kept.size) hl1;have hw4:w.heap.size≤w4.heap.size:=((hE1.kept.trans hg3).trans hE4.kept).size;clear c0 c1 c2 c3 c4 c5 c6 fr;obtain ⟨c0,c1,c2,c3,c4,c5,c6,fr⟩:=hR4.reads)
          | (go_at_call 102;refine hX.mono ?_;rintro e w3 ⟨hg3,I',B',rfl,hP3,hX3⟩)
          | (go_at_call 100;refine hDA.mono ?_;rintro e w1 ⟨rfl,hR1,hE1⟩;have h1:=FS.gr h hE1.kept (h.ps.step hE1.kept hR1 h.ps.ci) (Ext.refl _ _ _) (Nat.le_refl _);have hX:=h1.expr HD.out HK.out.symm hR))
        go_ret
        obtain ⟨p1,p2,p3⟩:=HPU.out
        exact ⟨(Kb.of_gr ((hE1.kept.trans hg3).trans hE4.kept) hb).trans (p3 hb),rfl,_,I',B',p1,p2⟩
end Pr
end Go.Proofs.YtpgcidpghmoibaaGreatDoor

namespace Go.Proofs.YtpgcidpghmoibaaGreatDoor
namespace Pr
open Go.RowKit Go.Maps
open Rf (Kept)
open G (PNode)
def ReadP (w:World) (r:G.Fin') (e:Ending) (w':World):Prop:=
  Below w.heap.size w w'∧match r with
    | .err er p=>e=.returned (.tuple #[.slice none 0 0,.int .i64 (p:Int),.int .i64 (er:Int)])
    | .ok Q T=>∃ vR I B,e=.returned (.tuple #[vR,.int .i64 0,.int .i64 0])∧Tree w' I T B∧G.WF T∧w'.ownsRow 0 143 1 vR Q.length (ptrs B Q)∧(∀ q ∈ Q,q < T.length)∧Q.length≤100000
theorem FS.start (w:World) (s:ByteArray) (hs:s.size≤2000) (hT:Tabs w) :
    FS ((w.alloc (.map #[] 0)).alloc (.cells (rcs s ⟨0,0,0,0⟩ (.map (some w.heap.size)) (.slice none 0 0)) 142)) (w.heap.size + 1) s ⟨0,0,0,0⟩ w.heap.size (.slice none 0 0) (fun _=>False) [] [] [] []:=by
  have hb:=below_then (below_made w (.map #[] 0)) (below_made (w.alloc (.map #[] 0)) (.cells (rcs s ⟨0,0,0,0⟩ (.map (some w.heap.size)) (.slice none 0 0)) 142))
  obtain ⟨t1,t2,t3⟩:=hT.lt
  refine { ps:=⟨heap_two _ _ _,⟨rfl,fun n x hx=>by simp at hx,fun k h=>h.elim⟩,?_,hT.below hb,⟨by omega,by omega,by omega⟩,fun h=>h,fun h=>h,by omega,fun k x hx=>by simp at hx,by simp,Nat.zero_le _,hs⟩,row:=World.ownsRow_nil _ _ _ _,rq:=by simp,out:=fun k e=>by simp [Value.ownBlock] at e,om:=⟨by omega,by omega,by omega⟩ }
  have h1:=(World.ownsMap_made w Tryz.prog 9 heldR).alloc (.cells (rcs s ⟨0,0,0,0⟩ (.map (some w.heap.size)) (.slice none 0 0)) 142)
  exact ⟨_,0,h1,Nat.le_refl _,fun nm _=>rfl⟩
def RInv (w:World) (s:ByteArray) (r:G.Fin') (wr:World):Prop:=
  ∃ vR I T B E Q i1,FS wr (w.heap.size + 1) s ⟨G.skip s i1,0,0,0⟩ w.heap.size vR I T B E Q∧Kb w.heap.size w wr∧(∀ k,vR.ownBlock=some k→w.heap.size≤k)∧E.length≤G.skip s i1∧Q.length≤G.skip s i1∧T.length≤4 * G.skip s i1∧G.Src s i1 E Q T r
theorem Kb.below {w w':World} (h:Kb w.heap.size w w'):Below w.heap.size w w':=⟨h.os,h.tape,h.output,h.size,fun k hk=>h.block k hk hk⟩
set_option maxRecDepth 100000 in
set_option maxHeartbeats 2000000 in
theorem read_any (w:World) (s:ByteArray) (r:G.Fin') (hs:s.size≤2000) (hT:Tabs w) (hr:G.Src s 0 [] [] [] r) :
    Calls Tryz.prog 49 #[.string s] w fun e w'=>ReadP w r e w':=by
  have h0:=FS.start w s hs hT
  have hS:=skip_any _ _ s _ _ _ h0.ps.rb hs (Nat.zero_le _)
  have HK0:Hid (Kb w.heap.size w ((w.alloc (.map #[] 0)).alloc (.cells (rcs s ⟨0,0,0,0⟩ (.map (some w.heap.size)) (.slice none 0 0)) 142))):=((Kept.refl _ w).alloc _).alloc _
  have HF0:Hid _:=h0
  clear h0
  unfold rcs at hS
  have hmm:=@run_makeMap Tryz.prog
  go_enter Tryz.func49,Tryz.ntmps49
  go_wp2_with (go_at_call 76;refine hS.mono ?_;rintro e w1 ⟨rfl,hR1,hE1⟩;have HI:Hid (RInv w s r w1):=⟨.slice none 0 0,fun _=>False,[],[],[],[],0,FS.gr HF0.out hE1.kept (HF0.out.ps.step hE1.kept hR1 (G.skip_le s 0 (Nat.zero_le _))) (Ext.refl _ _ _) (Nat.le_refl _),HK0.out.trans (Kb.of_gr hE1.kept (Nat.le_succ _)),fun k e=>by simp [Value.ownBlock] at e,Nat.zero_le _,Nat.zero_le _,Nat.zero_le _,hr⟩)
  go_loopw [] (fun wr=>RInv w s r wr) (fun wr=>s.size - posOf (w.heap.size + 1) wr)
  case atStart=>exact HI.out
  case round =>
    obtain ⟨vR,I,T,B,E,Q,i1,hF,hK,hvb,hEl,hQl,hTl,hSrc⟩:=hrel
    have HP:Hid (posOf (w.heap.size + 1) wr=G.skip s i1):=hF.ps.rb.pos
    have hci:G.skip s i1≤s.size:=hF.ps.ci
    obtain ⟨c0,c1,c2,c3,c4,c5,c6,fr⟩:=hF.ps.rb.reads
    clear hR1 hE1 HI hS HF0
    by_cases hlt:G.skip s i1 < s.size
    · have hlt':(G.skip s i1:Int) < (s.size:Int):=by omega
      have hSt:∀ rs,G.Stm s E (G.skip s i1) T rs→_:=fun rs hrs=>stm_any w.heap.size wr (w.heap.size + 1) s _ w.heap.size vR I T B E Q rs hF (Nat.le_succ _) (Nat.le_refl _) hvb rfl (by omega) (by omega) (G.skip_skip s i1) hrs
      cases hSrc with
      | done h1=>exact absurd hlt h1
      | err h1 h2 =>
        have hS2:=hSt _ h2
        go_wp2_with (go_at_call 77;refine hS2.mono ?_;rintro e w2 ⟨hk2,rfl,i2,d2,vR2,hR2⟩;clear c0 c1 c2 c3 c4 c5 c6 fr;obtain ⟨c0,c1,c2,c3,c4,c5,c6,fr⟩:=hR2.reads)
        go_quiet (fail)
        go_wp2
        go_ret3
        exact ⟨below_drewN (hK.trans hk2).below _,rfl⟩
      | rule h1 h2 h3 =>
        rename_i n j T'
        have hS2:=hSt _ h2
        have hfi:=h2.fine hci hF.ps.wf hF.ps.el hTl
        simp only [G.SRes.Fine] at hfi
        obtain ⟨g1,g2,g3,g4,g5,g6⟩:=hfi
        have hgj:=G.skip_ge s j
        have hgl:=G.skip_le s j g2
        go_wp2_with (go_at_call 77;refine hS2.mono ?_;rintro e w2 ⟨hk2,rfl,vR',I',B',hF2,hv2⟩)
        have hQ:RInv w s r w2:=⟨vR',I',T',B',E,Q ++ [n],j,hF2,hK.trans hk2,hv2,by omega,by simp;omega,by omega,h3⟩
        refine ⟨hQ,?_⟩
        rw [HP.out,hF2.ps.rb.pos]
        show s.size - G.skip s j < _
        omega
      | defn h1 h2 h3 =>
        rename_i nm n j T'
        have hS2:=hSt _ h2
        have hfi:=h2.fine hci hF.ps.wf hF.ps.el hTl
        simp only [G.SRes.Fine] at hfi
        obtain ⟨g1,g2,g3,g4,g5,g6⟩:=hfi
        have hgj:=G.skip_ge s j
        have hgl:=G.skip_le s j g2
        go_wp2_with (go_at_call 77;refine hS2.mono ?_;rintro e w2 ⟨hk2,rfl,I',B',hF2⟩)
        have hQ:RInv w s r w2:=⟨vR,I',T',B',E ++ [(nm,n)],Q,j,hF2,hK.trans hk2,hvb,by simp;omega,by omega,by omega,h3⟩
        refine ⟨hQ,?_⟩
        rw [HP.out,hF2.ps.rb.pos]
        show s.size - G.skip s j < _
        omega
    · have hlt':¬ (G.skip s i1:Int) < (s.size:Int):=by omega
      have hre:r=.ok Q T:=by
        cases hSrc with
        | done h1=>rfl
        | err h1=>exact absurd h1 hlt
        | rule h1=>exact absurd h1 hlt
        | defn h1=>exact absurd h1 hlt
      subst hre
      obtain ⟨va,vc,hve⟩:=Rf.own_len hF.row
      subst hve
      clear hSrc
      go_wp2
      go_ret3
      exact ⟨hK.below,_,I,B,rfl,hF.ps.tr,hF.ps.wf,hF.row,hF.rq,by omega⟩
end Pr
end Go.Proofs.YtpgcidpghmoibaaGreatDoor

namespace Go.Proofs.YtpgcidpghmoibaaGreatDoor
namespace Pr
open Go.RowKit
open Rf (Kept Lies)
open G (PNode)
set_option maxRecDepth 100000 in
set_option maxHeartbeats 1000000 in
theorem mplaces_any (w:World) (I:Nat→Prop) (b:Nat) (v:Value) (P:List Pl) (V:List Value) (f:PB) (hM:MaAt w I b v P V f) :
    Calls Tryz.prog 55 #[pv b] w fun e w'=>e=.returned (.int .i64 (P.length:Int))∧w'=w:=by
  obtain ⟨va,vc,hve⟩:=Rf.own_len hM.row
  subst hve
  have m0:=Rf.cell_blk hM.blk 0 (.slice va P.length vc) rfl
  go_enter Tryz.func55,Tryz.ntmps55
  go_wp2
  go_ret
  exact ⟨rfl,rfl⟩
def tellP (X:List PNode) (a c:Int):Bool:=X.any fun x=>G.inV x a != G.inV x c
set_option maxRecDepth 100000 in
set_option maxHeartbeats 2000000 in
theorem msame_any (w:World) (I:Nat→Prop) (b:Nat) (v:Value) (P:List Pl) (V:List Value) (f:PB) (hM:MaAt w I b v P V f) (hI:∀ k,I k→k < w.heap.size) (hn:P.length≤100) (a c:Int) :
    Calls Tryz.prog 54 #[pv b,.int .i32 a,.int .i32 c] w fun e w'=>e=.returned (.bool (!(tellP (xs P) a c)))∧Below w.heap.size w w':=by
  obtain ⟨va,vc,hve⟩:=Rf.own_len hM.row
  subst hve
  have m0:=Rf.cell_blk hM.blk 0 (.slice va P.length vc) rfl
  go_enter Tryz.func54,Tryz.ntmps54
  go_wp2
  clear m0
  go_loopw [8,14] (fun _ vk wr=>∃ k:Nat,vk=.int .i64 k∧k≤P.length∧tellP (xs (P.take k)) a c=false∧Below w.heap.size w wr) (fun _ vk _=>P.length - (intOf vk).toNat)
  case atStart=>exact ⟨0,rfl,Nat.zero_le _,rfl,Below.refl _ _⟩
  case round =>
    obtain ⟨k,rfl,hk,ht,hbw⟩:=hrel
    have HT:Hid _:=ht
    clear ht
    by_cases hlt:k < P.length
    · have hlt':(k:Int) < (P.length:Int):=by omega
      have hM1:=hM.below hI hbw
      have hp:P[k]?=some (P[k]'hlt):=List.getElem?_eq_getElem _
      generalize P[k]'hlt=p at hp
      have hu:V[k]?=some (V[k]'(by rw [hM.len];exact hlt)):=List.getElem?_eq_getElem _
      generalize V[k]'(by rw [hM.len];exact hlt)=u at hu
      obtain ⟨rs,hrow,hok,hui⟩:=hM1.sets k p u hp hu
      obtain ⟨ua,uc,hue⟩:=Rf.own_len hrow
      subst hue
      have hrw:=hM1.row
      obtain ⟨g,cap,hve,_,_⟩:=hrw.form (by omega)
      simp only [Value.slice.injEq] at hve
      obtain ⟨rfl,_,rfl⟩:=hve
      have d0:wr.cell? ⟨g,k * 6,none⟩=some (.slice ua rs.length uc):=own_cell' hrw (k * 6 + 0) ((pcells_get hp hu 0 (by omega)).trans rfl)
      have d1:wr.cell? ⟨g,k * 6 + 1,none⟩=some (.bool p.x.other):=own_cell' hrw (k * 6 + 1) ((pcells_get hp hu 1 (by omega)).trans rfl)
      have d2:wr.cell? ⟨g,k * 6 + 2,none⟩=some (.int .i64 (p.rule:Int)):=own_cell' hrw (k * 6 + 2) ((pcells_get hp hu 2 (by omega)).trans rfl)
      have d3:wr.cell? ⟨g,k * 6 + 3,none⟩=some (.bool p.last):=own_cell' hrw (k * 6 + 3) ((pcells_get hp hu 3 (by omega)).trans rfl)
      have d4:wr.cell? ⟨g,k * 6 + 4,none⟩=some (.int .u64 p.be.a):=own_cell' hrw (k * 6 + 4) ((pcells_get hp hu 4 (by omega)).trans rfl)
      have d5:wr.cell? ⟨g,k * 6 + 5,none⟩=some (.int .u64 p.be.c):=own_cell' hrw (k * 6 + 5) ((pcells_get hp hu 5 (by omega)).trans rfl)
      have hb1:Below wr.heap.size wr (wr.alloc (.cells #[.slice ua rs.length uc,.bool p.x.other,.int .i64 (p.rule:Int),.bool p.last,.int .u64 p.be.a,.int .u64 p.be.c] 158)):=(Below.refl _ _).alloc (Nat.le_refl _) _
      have e0:=Rf.cell_blk (heap_alloc_new wr (.cells #[.slice ua rs.length uc,.bool p.x.other,.int .i64 (p.rule:Int),.bool p.last,.int .u64 p.be.a,.int .u64 p.be.c] 158)) 0 (.slice ua rs.length uc) rfl
      have e1:=Rf.cell_blk (heap_alloc_new wr (.cells #[.slice ua rs.length uc,.bool p.x.other,.int .i64 (p.rule:Int),.bool p.last,.int .u64 p.be.a,.int .u64 p.be.c] 158)) 1 (.bool p.x.other) rfl
      have hrow1:=Rf.own_same (w':=wr.alloc (.cells #[.slice ua rs.length uc,.bool p.x.other,.int .i64 (p.rule:Int),.bool p.last,.int .u64 p.be.a,.int .u64 p.be.c] 158)) hrow (fun j e=>hb1.block j (hrow.lt j e).2)
      have hst:tellP (xs (P.take (k + 1))) a c=(tellP (xs (P.take k)) a c || (G.inV p.x a != G.inV p.x c)):=by
        rw [take_snoc hp]
        simp [tellP,xs,List.any_append]
      have hfull:(G.inV p.x a != G.inV p.x c)=true→tellP (xs P) a c=true:=fun h=>by
        unfold tellP xs
        rw [List.any_eq_true]
        exact ⟨p.x,List.mem_map.2 ⟨p,List.mem_of_getElem? hp,rfl⟩,h⟩
      have HS:Hid _:=And.intro hst hfull
      clear hst hfull
      go_upto_region 4 with fail
      clear d0 d1 d2 d3 d4 d5 hrw
      have hB1:Below w.heap.size w (wr.alloc (.cells #[.slice ua rs.length uc,.bool p.x.other,.int .i64 (p.rule:Int),.bool p.last,.int .u64 p.be.a,.int .u64 p.be.c] 158)):=hbw.trans (hb1.mono hbw.size)
      generalize wr.alloc (.cells #[.slice ua rs.length uc,.bool p.x.other,.int .i64 (p.rule:Int),.bool p.last,.int .u64 p.be.a,.int .u64 p.be.c] 158)=w1 at *
      have hN:∀ (y:Int) d os,Calls Tryz.prog 84 #[.agg #[.slice ua rs.length uc,.bool p.x.other],.int .i32 y] (Sort.grow (redrawn w1 d) os) fun e w''=>e=.returned (.bool (G.inV p.x y))∧∃ q:Regrown,w''=Sort.grow (redrawn w1 q.d) q.os:=
        fun y d os=>by
          have h1:=has_any (Sort.grow (redrawn w1 d) os) p.x.ranges p.x.other (.agg #[.slice ua rs.length uc,.bool p.x.other]) ⟨_,rs,rfl,Rf.own_same hrow1 (fun j e=>(below_regrown w1 d os).block j (hrow1.lt j e).2),hok⟩ y
          rw [hasB_in] at h1
          exact Calls.regrown_of h1
      have q0:∀ d os,(Sort.grow (redrawn w1 d) os).cell? ⟨wr.heap.size,0,none⟩=some (.slice ua rs.length uc):=fun d os=>cell_regrown e0 d os
      have q1:∀ d os,(Sort.grow (redrawn w1 d) os).cell? ⟨wr.heap.size,1,none⟩=some (.bool p.x.other):=fun d os=>cell_regrown e1 d os
      clear e0 e1
      generalize G.inV p.x=F at *
      refine wp_region_quiet_below (by kernel_rfl) (by kernel_rfl) ?_
      repeat (first | go_big_quiet_step (exact hN _ _ _) | quiet_step (exact hN _ _ _))
      refine wpQuiet_nil ?_
      intro _ hw'
      obtain ⟨⟨dq,osq⟩,hw''⟩:=hw'
      subst hw''
      have hbel:Below w.heap.size w (Sort.grow (redrawn w1 dq) osq):=hB1.trans ((below_regrown w1 dq osq).mono hB1.size)
      have HB:Hid _:=hbel
      clear hbel q0 q1 hN
      have hS1:=HS.out.1
      have hS2:=HS.out.2
      generalize F a=ba at *
      generalize F c=bc at *
      have HS2:Hid _:=And.intro hS1 hS2
      clear hS1 hS2 HS
      cases ba <;> cases bc
      · go_wp2
        refine ⟨⟨k + 1,by go_num,by omega,?_,HB.out⟩,by simp [intOf];omega⟩
        rw [HS2.out.1,HT.out]
        rfl
      · go_wp2
        go_ret
        refine ⟨?_,HB.out⟩
        rw [HS2.out.2 rfl]
        rfl
      · go_wp2
        go_ret
        refine ⟨?_,HB.out⟩
        rw [HS2.out.2 rfl]
        rfl
      · go_wp2
        refine ⟨⟨k + 1,by go_num,by omega,?_,HB.out⟩,by simp [intOf];omega⟩
        rw [HS2.out.1,HT.out]
        rfl
    · have e:k=P.length:=by omega
      subst e
      have hlt':¬ (P.length:Int) < (P.length:Int):=by omega
      go_wp2
      go_ret
      refine ⟨?_,hbw⟩
      have:=HT.out
      rw [List.take_length] at this
      rw [this]
      rfl
end Pr
end Go.Proofs.YtpgcidpghmoibaaGreatDoor
