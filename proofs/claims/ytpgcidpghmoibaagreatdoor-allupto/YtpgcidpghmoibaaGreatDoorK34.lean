/-
  THE PROGRAM's MACHINE
  THE PROGRAM's MACHINE
  THE PROGRAM's MACHINE
-/
import Derived.Test.YtpgcidpghmoibaaGreatDoorK32
import Derived.Test.YtpgcidpghmoibaaGreatDoorK33
import Derived.Test.YtpgcidpghmoibaaGreatDoorK05
namespace Go.Proofs.YtpgcidpghmoibaaGreatDoor
namespace Pr
open Go.RowKit
open Rf (Kept Lies)
open G (PNode)
theorem infoPlace:(Tryz.prog.info? 158).map (fun i=>(i.zero,i.size,i.bytes))=some (some (.agg #[.slice none 0 0,.bool false,.int .i64 0,.bool false,.int .u64 0,.int .u64 0]),6,64):=by kernel_rfl
set_option maxRecDepth 100000 in
set_option maxHeartbeats 2000000 in
theorem addplace_any (w:World) (I:Nat→Prop) (b:Nat) (v:Value) (P:List Pl) (V:List Value) (f:PB) (hM:MaAt w I b v P V f) (hI:∀ k,I k→k < w.heap.size) (hn:P.length < 100)
    (x:PNode) (ua:Option Addr) (un uc:Nat) (rs:List (Nat × Nat)) (hu:w.ownsRow 0 197 2 (.slice ua un uc) rs.length (rc rs)) (hok:SetOk rs x.ranges) (hui:∀ j,(Value.slice ua un uc).ownBlock=some j→I j) :
    Calls Tryz.prog 130 #[pv b,.agg #[.slice ua un uc,.bool x.other]] w fun e w'=>e=.returned (En.val ⟨PB.zero.with P.length,PB.zero.with P.length,false⟩) ∧
      ∃ v',MaAt w' I b v' (P ++ [⟨x,0,false,⟨0,0⟩⟩]) (V ++ [.slice ua un uc]) f∧Mv b w v w' v':=by
  obtain ⟨i0,hi,hz0,hz1,hz2⟩:=info_parts infoPlace
  have hbl:=lt_of_block hM.blk
  have hb0:Below w.heap.size w ((w.alloc (.cells #[.slice ua un uc,.bool x.other] 147)).alloc (.cells (endCells ⟨PB.zero,PB.zero,false⟩) 184)):=((Below.refl _ w).alloc (Nat.le_refl _) _).alloc (by simp) _
  have hM0:=hM.below hI hb0
  obtain ⟨va,vc,hve⟩:=Rf.own_len hM.row
  subst hve
  have m0:=Rf.cell_blk hM0.blk 0 _ rfl
  have hW:=bwith_any ((w.alloc (.cells #[.slice ua un uc,.bool x.other] 147)).alloc (.cells (endCells ⟨PB.zero,PB.zero,false⟩) 184)) PB.zero P.length (by omega)
  have q0:((w.alloc (.cells #[.slice ua un uc,.bool x.other] 147)).alloc (.cells (endCells ⟨PB.zero,PB.zero,false⟩) 184)).heap[w.heap.size]?=some (.cells #[.slice ua un uc,.bool x.other] 147 (0,0)):=Rf.blk_alloc _ (heap_alloc_new w _)
  have q1:((w.alloc (.cells #[.slice ua un uc,.bool x.other] 147)).alloc (.cells (endCells ⟨PB.zero,PB.zero,false⟩) 184)).heap[w.heap.size + 1]?=some (.cells (endCells ⟨PB.zero,PB.zero,false⟩) 184 (0,0)):=by
    have:=heap_alloc_new (w.alloc (.cells #[.slice ua un uc,.bool x.other] 147)) (.cells (endCells ⟨PB.zero,PB.zero,false⟩) 184)
    rw [show (w.alloc (.cells #[.slice ua un uc,.bool x.other] 147)).heap.size=w.heap.size + 1 by simp] at this
    exact this
  have HQ:Hid _:=And.intro q0 (And.intro q1 hb0)
  clear q0 q1 hb0 hM0
  generalize PB.zero.with P.length=only at hW ⊢
  unfold endCells PB.zero at m0 hW
  go_enter Tryz.func130,Tryz.ntmps130
  go_wp2_with (go_at_call 144;refine hW.mono ?_;rintro e w1 ⟨rfl,hb1⟩)
  have hb2:Below w.heap.size w (w1.alloc (.cells #[.int .u64 only.a,.int .u64 only.c] 153)):=(HQ.out.2.2.trans (hb1.mono HQ.out.2.2.size)).alloc (by have h1:=hb1.size;simp at h1;omega) _
  have Mz:=hM.below hI hb2
  have hs2:w.heap.size + 1 < w1.heap.size:=by have:=hb1.size;simp at this;omega
  have r0:(w1.alloc (.cells #[.int .u64 only.a,.int .u64 only.c] 153)).heap[w.heap.size]?=some (.cells #[.slice ua un uc,.bool x.other] 147 (0,0)):=Rf.blk_alloc _ ((hb1.block _ (lt_of_block HQ.out.1)).trans HQ.out.1)
  have r1:(w1.alloc (.cells #[.int .u64 only.a,.int .u64 only.c] 153)).heap[w.heap.size + 1]?=some (.cells (endCells ⟨PB.zero,PB.zero,false⟩) 184 (0,0)):=Rf.blk_alloc _ ((hb1.block _ (lt_of_block HQ.out.2.1)).trans HQ.out.2.1)
  have r2:(w1.alloc (.cells #[.int .u64 only.a,.int .u64 only.c] 153)).heap[w1.heap.size]?=some (.cells #[.int .u64 only.a,.int .u64 only.c] 153 (0,0)):=heap_alloc_new w1 _
  have d0:=Rf.cell_blk r0 0 (.slice ua un uc) rfl
  have d1:=Rf.cell_blk r0 1 (.bool x.other) rfl
  have c0:=Rf.cell_blk Mz.blk 0 (.slice va P.length vc) rfl
  have oz:=Mz.row
  have hwz:=lt_of_block Mz.blk
  have hz1':=hb2.size
  generalize w1.heap.size=h5 at *
  generalize w1.alloc (.cells #[.int .u64 only.a,.int .u64 only.c] 153)=wz at *
  have HZ:Hid _:=And.intro Mz (And.intro r1 (And.intro r2 (And.intro hb2 hs2)))
  clear hb1 m0 hW HQ Mz r0 r1 r2 hb2
  have nb:=hM.nb
  go_region_law
    ((refine step_append_lies _ (by rfl) _ _ _ (by rfl) 0 158 i0 _ 6 64 Tryz.underlying150 hi hz0 hz1 hz2 rfl (by omega) (.slice va P.length vc) P.length (pcells P V) (by rfl) ((oz.alloc _).drew)
        ⟨wz.heap.size,0,none⟩ 1 1 [.slice ua un uc,.bool x.other,.int .i64 0,.bool false,.int .u64 0,.int .u64 0] (by rfl) (by rfl) (World.news_of_block (cs:=#[.slice ua un uc,.bool x.other,.int .i64 0,.bool false,.int .u64 0,.int .u64 0]) (t:=158) (fr:=(0,0)) (heap_alloc_new wz _)) (fun y hy=>by simp at hy;rcases hy with rfl | rfl | rfl | rfl | rfl | rfl <;> rfl)
        (by omega) (by unfold maxLen;omega) (by omega) (by simp) (wz.heap.size + 1) (by simp) ?_;intro g2 cap2 w4 hn2 hg2 hat2 hlt2;have hb4:w4.heap[b]?=_:=(hg2.block b (by simp;omega) (fun e=>nb e.symm)).trans ((Below.heap_alloc _ _ _ hwz).trans HZ.out.1.blk);have fb2':=Rf.free_blk hb4 0;have cb2':=Rf.cell_blk hb4 0 (.slice va P.length vc) rfl;clear hb4))
  all_goals
    have hfin:=MaAt.snoc HZ.out.1 (fun k hk=>Nat.lt_of_lt_of_le (hI k hk) hz1') x (.slice ua un uc) rs (Rf.own_same hu (fun j e=>HZ.out.2.2.2.1.block j (hu.lt j e).2)) hok hui (((Kept.refl _ _).alloc _).drew) hg2 (Rf.lies_of hat2 (by omega)) hn2
    have hvl:∀ k,(Value.slice va P.length vc).ownBlock=some k→k < w.heap.size:=fun k e=>(hM.row.lt k e).2
    have hk5:∀ k,k < wz.heap.size→k ≠ b→(Value.slice va P.length vc).ownBlock ≠ some k→(w4.setCell ⟨b,0,none⟩ (.slice (some ⟨g2,0,none⟩) (P.length + 1) cap2)).heap[k]?=wz.heap[k]?:=fun k hk hb hv=>(Rf.blk_ne _ hb).trans ((hg2.block k (by simp;omega) (fun e=>hv e.symm)).trans (Below.heap_alloc _ _ _ hk))
    have s1:=(hk5 _ (lt_of_block HZ.out.2.1) (by omega) (fun e=>by have:=hvl _ e;omega)).trans HZ.out.2.1
    have s2:=(hk5 _ (lt_of_block HZ.out.2.2.1) (by have:=HZ.out.2.2.2.2;omega) (fun e=>by have h1:=hvl _ e;have h2:=HZ.out.2.2.2.2;omega)).trans HZ.out.2.2.1
    have hmv:Mv b w (.slice va P.length vc) (w4.setCell ⟨b,0,none⟩ (.slice (some ⟨g2,0,none⟩) (P.length + 1) cap2)) (.slice (some ⟨g2,0,none⟩) (P.length + 1) cap2):=by
      refine ⟨?_,fun k e=>?_⟩
      · refine Kept.setCell ?_ (fun hn=>hn.1 rfl) _
        exact Kept.grown (((Kept.of_below HZ.out.2.2.2.1).alloc _).drew) hg2 (fun k e _ hn=>hn.2 e)
      · rcases Rf.lies_of (w:=wz) hat2 (by omega) k e with h | h
        · exact .inl h
        · exact .inr (by omega)
    have HG:(Value.slice (some ⟨g2,0,none⟩) (P.length + 1) cap2).ownBlock ≠ some (w.heap.size + 1):=fun e=>by
      rcases Rf.lies_of (w:=wz) hat2 (by omega) _ e with h | h
      · have:=hvl _ h;omega
      · have:=lt_of_block HZ.out.2.1;omega
    clear hn2 hg2 hat2 hlt2 fb2' cb2' hk5 oz c0 d0 d1
    generalize w4.setCell ⟨b,0,none⟩ (.slice (some ⟨g2,0,none⟩) (P.length + 1) cap2)=w5 at *
    have o0:=Rf.cell_blk s2 0 (.int .u64 only.a) rfl
    have o1:=Rf.cell_blk s2 1 (.int .u64 only.c) rfl
    have e0:=Rf.cell_blk s1 0 (.int .u64 0) rfl
    have e1:=Rf.cell_blk s1 1 (.int .u64 0) rfl
    have e2:=Rf.cell_blk s1 2 (.int .u64 0) rfl
    have e3:=Rf.cell_blk s1 3 (.int .u64 0) rfl
    have e4:=Rf.cell_blk s1 4 (.bool false) rfl
    have ef:=fun o=>Rf.free_blk s1 o
    have HF:Hid _:=And.intro hfin (And.intro hmv (And.intro s1 HG))
    clear hfin hmv
    go_wp2
    change bodyPost _ _ _ _ _ (setEn w5 (w.heap.size + 1) ⟨only,only,false⟩)
    have hR:EnAt (setEn w5 (w.heap.size + 1) ⟨only,only,false⟩) (w.heap.size + 1) ⟨only,only,false⟩:=EnAt.setEn HF.out.2.2.1 _
    have hF6:=HF.out.1.beside (k:=w.heap.size + 1) (by omega) HF.out.2.2.2 (fun h=>by have:=hI _ h;omega) (fun j hj=>setEn_ne (w:=w5) ⟨only,only,false⟩ hj)
    have hv6:=HF.out.2.1.setEn (k:=w.heap.size + 1) (by omega) ⟨only,only,false⟩
    generalize setEn w5 (w.heap.size + 1) ⟨only,only,false⟩=w6 at *
    obtain ⟨R0,R1,R2,R3,R4,_⟩:=hR.reads
    refine bodyPost_ret (by simp [results,Tryz.results130,go_sem,R0,R1,R2,R3,R4];try rfl) rfl ?_
    exact ⟨rfl,_,hF6,hv6⟩
end Pr
end Go.Proofs.YtpgcidpghmoibaaGreatDoor

namespace Go.Proofs.YtpgcidpghmoibaaGreatDoor
namespace Pr
open Go.RowKit
open Rf (Kept Lies)
open G (PNode)
structure Rp (w0:World) (I:Nat→Prop) (b:Nat) (v0:Value) (k7:Nat) (P:List Pl) (V:List Value) (f:PB) (wh:En) (v:Value) (w:World):Prop where
  ma:MaAt w I b v P V f
  mv:Mv b w0 v0 w v
  e4:EnAt w w0.heap.size En.zero
  e7:EnAt w k7 wh
  n7:w0.heap.size < k7
  nv:∀ j,v.ownBlock=some j→j ≠ w0.heap.size∧j ≠ k7
  lt:b < w0.heap.size
  hI:∀ k,I k→k < w0.heap.size
theorem Rp.start {w w1:World} {I:Nat→Prop} {b:Nat} {v v1:Value} {P P1:List Pl} {V V1:List Value} {f:PB} (hM:MaAt w I b v P V f) (hI:∀ k,I k→k < w.heap.size) (hM1:MaAt w1 I b v1 P1 V1 f) (hv:Mv b (w.alloc (.cells #[.int .u64 0,.int .u64 0,.int .u64 0,.int .u64 0,.bool false] 184)) v w1 v1) (x:En) :
    Rp w I b v w1.heap.size P1 V1 f x v1 (w1.alloc (.cells #[.int .u64 x.f.a,.int .u64 x.f.c,.int .u64 x.l.a,.int .u64 x.l.c,.bool x.e] 184)):=by
  have hb0:Below w.heap.size w (w.alloc (.cells #[.int .u64 0,.int .u64 0,.int .u64 0,.int .u64 0,.bool false] 184)):=(Below.refl _ w).alloc (Nat.le_refl _) _
  have hs:=hv.kept.size
  simp at hs
  have hvl:∀ j,v.ownBlock=some j→j < w.heap.size:=fun j e=>(hM.row.lt j e).2
  have hbl:=lt_of_block hM.blk
  have hb:Below w1.heap.size w1 (w1.alloc (.cells #[.int .u64 x.f.a,.int .u64 x.f.c,.int .u64 x.l.a,.int .u64 x.l.c,.bool x.e] 184)):=(Below.refl _ _).alloc (Nat.le_refl _) _
  have e4:w1.heap[w.heap.size]?=_:=hv.blk (heap_alloc_new w _) (by omega) (fun e=>by have:=hvl _ e;omega)
  refine { ma:=hM1.below (fun k hk=>by have:=hI k hk;omega) hb,mv:=((Mv.of_below hb0).trans hv).trans (Mv.of_below hb),e4:=Rf.blk_alloc _ e4,e7:=heap_alloc_new w1 _,n7:=by omega,lt:=hbl,hI:=hI,nv:=fun j e=>?_ }
  have h1:=(hM1.row.lt j e).2
  rcases hv.lies j e with h | h
  · have:=hvl j h;omega
  · simp at h;omega
theorem Rp.turned {w0:World} {I:Nat→Prop} {b:Nat} {v0:Value} {k7:Nat} {P P':List Pl} {V:List Value} {f:PB} {wh:En} {v:Value} {w w2:World} (h:Rp w0 I b v0 k7 P V f wh v w) (hM:MaAt w2 I b v P' V f) (hv:Mv b w v w2 v):Rp w0 I b v0 k7 P' V f wh v w2:=by
  have hlt:=h.lt
  have h7:=h.n7
  exact { ma:=hM,mv:=h.mv.trans hv,e4:=hv.blk h.e4 (by omega) (fun e=>(h.nv _ e).1 rfl),e7:=hv.blk h.e7 (by omega) (fun e=>(h.nv _ e).2 rfl),n7:=h.n7,lt:=h.lt,hI:=h.hI,nv:=h.nv }
theorem Rp.setE {w0:World} {I:Nat→Prop} {b:Nat} {v0:Value} {k7:Nat} {P:List Pl} {V:List Value} {f:PB} {wh:En} {v:Value} {w:World} (h:Rp w0 I b v0 k7 P V f wh v w) (x:Bool):Rp w0 I b v0 k7 P V f ⟨wh.f,wh.l,x⟩ v (setE w k7 x):=by
  have hlt:=h.lt
  have h7:=h.n7
  exact { ma:=h.ma.beside (k:=k7) (by omega) (fun e=>(h.nv _ e).2 rfl) (fun e=>by have:=h.hI _ e;omega) (fun _ hj=>setE_ne x hj),mv:=h.mv.setE (by omega) x,e4:=(setE_ne x (by omega)).trans h.e4,e7:=h.e7.setE x,n7:=h.n7,lt:=h.lt,hI:=h.hI,nv:=h.nv }
theorem Rp.done {w0:World} {I:Nat→Prop} {b:Nat} {v0:Value} {k7:Nat} {P:List Pl} {V:List Value} {f:PB} {wh:En} {v:Value} {w:World} (h:Rp w0 I b v0 k7 P V f wh v w):EnAt (setEn w w0.heap.size wh) w0.heap.size wh∧MaAt (setEn w w0.heap.size wh) I b v P V f∧Mv b w0 v0 (setEn w w0.heap.size wh) v:=by
  have hlt:=h.lt
  exact ⟨h.e4.setEn wh,h.ma.beside (k:=w0.heap.size) (by omega) (fun e=>(h.nv _ e).1 rfl) (fun e=>by have:=h.hI _ e;omega) (fun j hj=>setEn_ne wh hj),h.mv.setEn (Nat.le_refl _) wh⟩
set_option maxRecDepth 100000 in
set_option maxHeartbeats 2000000 in
theorem addrep_any (I:Nat→Prop) (b:Nat) (T:List PNode) (B:List Nat) (p k:Nat) (hIH:AddAt I b T B p) (hpl:p < T.length) (hT:G.WF T) (hk:k=42 ∨ k=43 ∨ k=63) (w:World) (v:Value) (P:List Pl) (V:List Value) (f:PB)
    (hM:MaAt w I b v P V f) (hTr:Tree w I T B) (hsz:P.length + (G.lv T p).length≤100) :
    Calls Tryz.prog 133 #[pv b,.int .i64 (kindN k:Int),pv (bl B p)] w fun e w'=>APost I b f w v (repStep k (adN T p P)) e w':=by
  have hb0:Below w.heap.size w (w.alloc (.cells #[.int .u64 0,.int .u64 0,.int .u64 0,.int .u64 0,.bool false] 184)):=(Below.refl _ w).alloc (Nat.le_refl _) _
  have hA:=hIH _ v P V f (hM.below hTr.lt hb0) (hTr.below hb0) hsz
  have hrl:(adN T p P).1.length=P.length + (G.lv T p).length:=adN_len hT p hpl P
  unfold APost at hA
  generalize adN T p P=r at *
  obtain ⟨RP,rf,rl,re⟩:=r
  simp only at hA hrl
  have hlen:RP.length≤100:=by omega
  rcases hk with rfl | rfl | rfl
  · show Calls _ _ #[pv b,.int .i64 3,pv (bl B p)] _ _
    have hS:repStep 42 (RP,⟨rf,rl,re⟩)=(lnk rl rf RP,⟨rf,rl,true⟩):=rfl
    rw [hS]
    go_enter Tryz.func133,Tryz.ntmps133
    go_wp2_with (first
      | (go_at_call 145
         refine hLk.mono ?_
         rintro e w2 ⟨rfl,hM2,hv2⟩
         have M2:=M1.turned hM2 hv2
         obtain ⟨b0,b1,b2,b3,b4,bf⟩:=M2.e7.reads
         have M3:=M2.setE true
         have e7:=M3.e7.reads
         unfold setE at e7
         obtain ⟨g0,g1,g2,g3,g4,gf⟩:=e7
         have e4:=M3.e4.reads
         unfold setE En.zero PB.zero at e4
         obtain ⟨z0,z1,z2,z3,z4,zf⟩:=e4)
      | (go_at_call 104
         refine hA.mono ?_
         rintro e w1 ⟨rfl,v1,V1,hM1,hv1⟩
         have M1:=Rp.start hM hTr.lt hM1 hv1 ⟨rf,rl,re⟩
         have hLk:=link_any _ I b v1 RP V1 f rl rf M1.ma (fun j hj=>Nat.lt_of_lt_of_le (M1.hI j hj) M1.mv.kept.size) hlen))
    change bodyPost _ _ _ _ _ (setEn (setE w2 w1.heap.size true) w.heap.size ⟨rf,rl,true⟩)
    obtain ⟨d1,d2,d3⟩:=M3.done
    generalize setEn (setE w2 w1.heap.size true) w.heap.size ⟨rf,rl,true⟩=w6 at *
    obtain ⟨R0,R1,R2,R3,R4,_⟩:=d1.reads
    refine bodyPost_ret (by simp [results,Tryz.results133,go_sem,R0,R1,R2,R3,R4];try rfl) rfl ?_
    exact ⟨rfl,v1,V1,d2,d3⟩
  · show Calls _ _ #[pv b,.int .i64 4,pv (bl B p)] _ _
    have hS:repStep 43 (RP,⟨rf,rl,re⟩)=(lnk rl rf RP,⟨rf,rl,re⟩):=rfl
    rw [hS]
    go_enter Tryz.func133,Tryz.ntmps133
    go_wp2_with (first
      | (go_at_call 145
         refine hLk.mono ?_
         rintro e w2 ⟨rfl,hM2,hv2⟩
         have M2:=M1.turned hM2 hv2
         obtain ⟨b0,b1,b2,b3,b4,bf⟩:=M2.e7.reads
         have e4:=M2.e4.reads
         unfold En.zero PB.zero at e4
         obtain ⟨z0,z1,z2,z3,z4,zf⟩:=e4)
      | (go_at_call 104
         refine hA.mono ?_
         rintro e w1 ⟨rfl,v1,V1,hM1,hv1⟩
         have M1:=Rp.start hM hTr.lt hM1 hv1 ⟨rf,rl,re⟩
         have hLk:=link_any _ I b v1 RP V1 f rl rf M1.ma (fun j hj=>Nat.lt_of_lt_of_le (M1.hI j hj) M1.mv.kept.size) hlen))
    change bodyPost _ _ _ _ _ (setEn w2 w.heap.size ⟨rf,rl,re⟩)
    obtain ⟨d1,d2,d3⟩:=M2.done
    generalize setEn w2 w.heap.size ⟨rf,rl,re⟩=w6 at *
    obtain ⟨R0,R1,R2,R3,R4,_⟩:=d1.reads
    refine bodyPost_ret (by simp [results,Tryz.results133,go_sem,R0,R1,R2,R3,R4];try rfl) rfl ?_
    exact ⟨rfl,v1,V1,d2,d3⟩
  · show Calls _ _ #[pv b,.int .i64 5,pv (bl B p)] _ _
    have hS:repStep 63 (RP,⟨rf,rl,re⟩)=(RP,⟨rf,rl,true⟩):=rfl
    rw [hS]
    go_enter Tryz.func133,Tryz.ntmps133
    go_wp2_with (go_at_call 104
                 refine hA.mono ?_
                 rintro e w1 ⟨rfl,v1,V1,hM1,hv1⟩
                 have M1:=Rp.start hM hTr.lt hM1 hv1 ⟨rf,rl,re⟩
                 have M3:=Rp.start hM hTr.lt hM1 hv1 ⟨rf,rl,true⟩
                 have e4:=M3.e4.reads
                 unfold En.zero PB.zero at e4
                 obtain ⟨z0,z1,z2,z3,z4,zf⟩:=e4)
    change bodyPost _ _ _ _ _ (setEn (w1.alloc (.cells #[.int .u64 rf.a,.int .u64 rf.c,.int .u64 rl.a,.int .u64 rl.c,.bool true] 184)) w.heap.size ⟨rf,rl,true⟩)
    obtain ⟨d1,d2,d3⟩:=M3.done
    generalize setEn (w1.alloc (.cells #[.int .u64 rf.a,.int .u64 rf.c,.int .u64 rl.a,.int .u64 rl.c,.bool true] 184)) w.heap.size ⟨rf,rl,true⟩=w6 at *
    obtain ⟨R0,R1,R2,R3,R4,_⟩:=d1.reads
    refine bodyPost_ret (by simp [results,Tryz.results133,go_sem,R0,R1,R2,R3,R4];try rfl) rfl ?_
    exact ⟨rfl,v1,V1,d2,d3⟩
end Pr
end Go.Proofs.YtpgcidpghmoibaaGreatDoor

namespace Go.Proofs.YtpgcidpghmoibaaGreatDoor
namespace Pr
open Go.RowKit
open Rf (Kept Lies)
open G (PNode)
theorem parts_len {T:List PNode} (hT:G.WF T):∀ ps:List Nat,(∀ p ∈ ps,p < T.length)→ps.length≤(ps.flatMap (G.lv T)).length
  | [],_=>Nat.zero_le _
  | p :: ps,h=>by
    have h1:=parts_len hT ps (fun q hq=>h q (by simp [hq]))
    have h2:1≤(G.lv T p).length:=G.pl_pos hT p (h p (by simp))
    simp only [List.flatMap_cons,List.length_append,List.length_cons]
    omega
theorem lone_iff' {x:PNode}:G.lone x=true ↔ (x.kind=113 ∨ x.kind=99)∧x.parts.length=1:=by
  unfold G.lone
  rw [Bool.and_eq_true,Bool.or_eq_true,decide_eq_true_iff,decide_eq_true_iff,decide_eq_true_iff]
theorem ad_done {w w1:World} {I:Nat→Prop} {b:Nat} {v v1:Value} {P P1:List Pl} {V V1:List Value} {f:PB} (hM:MaAt w I b v P V f) (hI:∀ k,I k→k < w.heap.size) (hM1:MaAt w1 I b v1 P1 V1 f) (hv:Mv b (w.alloc (.cells #[.int .u64 0,.int .u64 0,.int .u64 0,.int .u64 0,.bool false] 184)) v w1 v1) (x:En) :
    EnAt w1 w.heap.size En.zero∧EnAt (setEn w1 w.heap.size x) w.heap.size x∧MaAt (setEn w1 w.heap.size x) I b v1 P1 V1 f∧Mv b w v (setEn w1 w.heap.size x) v1:=by
  have hb0:Below w.heap.size w (w.alloc (.cells #[.int .u64 0,.int .u64 0,.int .u64 0,.int .u64 0,.bool false] 184)):=(Below.refl _ w).alloc (Nat.le_refl _) _
  have hvl:∀ j,v.ownBlock=some j→j < w.heap.size:=fun j e=>(hM.row.lt j e).2
  have hbl:=lt_of_block hM.blk
  have e4:EnAt w1 w.heap.size En.zero:=hv.blk (heap_alloc_new w _) (by omega) (fun e=>by have:=hvl _ e;omega)
  refine ⟨e4,e4.setEn x,hM1.beside (k:=w.heap.size) (by omega) (fun e=>?_) (fun e=>by have:=hI _ e;omega) (fun j hj=>setEn_ne x hj),((Mv.of_below hb0).trans hv).setEn (Nat.le_refl _) x⟩
  rcases hv.lies _ e with h | h
  · have:=hvl _ h;omega
  · simp at h;omega
set_option maxRecDepth 100000 in
set_option maxHeartbeats 2000000 in
theorem add_set (I:Nat→Prop) (b:Nat) (T:List PNode) (B:List Nat) (hT:G.WF T) (n:Nat) (x:PNode) (hx:T[n]?=some x) (hl:¬ G.lone x=true) (hk:x.kind=115):AddAt I b T B n:=by
  intro w v P V f hM hTr hsz
  have hN:=hTr.node n x hx
  unfold NodeAt at hN
  rw [if_neg hl,if_pos hk] at hN
  obtain ⟨ha,u,rs,hblk,hrow,hok,hui⟩:=hN
  have hlv:G.lv T n=[x]:=by rw [G.lv_step hT hx,if_pos hk]
  rw [hlv] at hsz
  simp only [List.length_singleton] at hsz
  have hE:adN T n P=(P ++ [⟨x,0,false,⟨0,0⟩⟩],⟨PB.zero.with P.length,PB.zero.with P.length,false⟩):=by
    rw [adN_eq hT hx,if_neg hl,if_pos hk]
  rw [hE]
  obtain ⟨ua,uc,hue⟩:=Rf.own_len hrow
  subst hue
  have hb0:Below w.heap.size w (w.alloc (.cells #[.int .u64 0,.int .u64 0,.int .u64 0,.int .u64 0,.bool false] 184)):=(Below.refl _ w).alloc (Nat.le_refl _) _
  have hblk1:(w.alloc (.cells #[.int .u64 0,.int .u64 0,.int .u64 0,.int .u64 0,.bool false] 184)).heap[bl B n]?=_:=(hb0.block _ (lt_of_block hblk)).trans hblk
  have hA:=addplace_any _ I b v P V f (hM.below hTr.lt hb0) (fun k hk=>by have:=hTr.lt k hk;simp;omega) (by omega) x ua rs.length uc rs (Rf.own_same hrow (fun k e=>hb0.block k (hrow.lt k e).2)) hok hui
  generalize PB.zero.with P.length=only at *
  have c0:=Rf.cell_blk hblk1 0 (.int .i64 0) rfl
  have c1:=Rf.cell_blk hblk1 1 (.slice ua rs.length uc) rfl
  have c2:=Rf.cell_blk hblk1 2 (.bool x.other) rfl
  generalize bl B n=a at *
  clear hblk hblk1 hE hok hui hrow
  go_enter Tryz.func104,Tryz.ntmps104
  go_wp2_with (go_at_call 130
               refine hA.mono ?_
               rintro e w1 ⟨rfl,v1,hM1,hv1⟩
               obtain ⟨e4,d1,d2,d3⟩:=ad_done hM hTr.lt hM1 hv1 ⟨only,only,false⟩
               have e4:=e4.reads
               unfold En.zero PB.zero at e4
               obtain ⟨z0,z1,z2,z3,z4,zf⟩:=e4)
  change bodyPost _ _ _ _ _ (setEn w1 w.heap.size ⟨only,only,false⟩)
  generalize setEn w1 w.heap.size ⟨only,only,false⟩=w6 at *
  obtain ⟨R0,R1,R2,R3,R4,_⟩:=d1.reads
  refine bodyPost_ret (by simp [results,Tryz.results104,go_sem,R0,R1,R2,R3,R4];try rfl) rfl ?_
  exact ⟨rfl,v1,_,d2,d3⟩
set_option maxRecDepth 100000 in
set_option maxHeartbeats 2000000 in
theorem add_seq (I:Nat→Prop) (b:Nat) (T:List PNode) (B:List Nat) (hT:G.WF T) (n:Nat) (x:PNode) (hx:T[n]?=some x) (hl:¬ G.lone x=true) (hk:x.kind=113) (hIH:∀ p ∈ x.parts,AddAt I b T B p):AddAt I b T B n:=by
  intro w v P V f hM hTr hsz
  have hN:=hTr.node n x hx
  unfold NodeAt at hN
  have hk115:¬ x.kind=115:=by omega
  have hnl:n < T.length:=(List.getElem?_eq_some_iff.1 hx).1
  have hps:∀ p ∈ x.parts,p < T.length:=fun p hp=>by have:=(hT n x hx).parts p hp;omega
  rw [if_neg hl,if_neg hk115] at hN
  obtain ⟨ha,u,hblk,hrow,hui⟩:=hN
  rw [G.lv_step hT hx,if_neg hk115] at hsz
  have hE:adN T n P=foldS T x.parts (P,⟨PB.zero,PB.zero,true⟩):=by
    rw [adN_eq hT hx,if_neg hl,if_neg hk115]
    rw [if_pos hk]
  rw [hE]
  have hpl:=parts_len hT x.parts hps
  have hkn:kindN x.kind=1:=by rw [hk];rfl
  rw [hkn] at hblk
  have hb0:Below w.heap.size w (w.alloc (.cells #[.int .u64 0,.int .u64 0,.int .u64 0,.int .u64 0,.bool false] 184)):=(Below.refl _ w).alloc (Nat.le_refl _) _
  have hblk1:(w.alloc (.cells #[.int .u64 0,.int .u64 0,.int .u64 0,.int .u64 0,.bool false] 184)).heap[bl B n]?=_:=(hb0.block _ (lt_of_block hblk)).trans hblk
  have hA:=addseq_any I b T B x.parts hIH hps hT _ v P V f u (hM.below hTr.lt hb0) (hTr.below hb0) ⟨Rf.own_same hrow (fun k e=>hb0.block k (hrow.lt k e).2),hui⟩ (by omega) hsz
  unfold APost at hA
  obtain ⟨r,hr⟩:∃ r,foldS T x.parts (P,⟨PB.zero,PB.zero,true⟩)=r:=⟨_,rfl⟩
  rw [hr] at hA ⊢
  obtain ⟨RP,rf,rl,re⟩:=r
  simp only at hA
  obtain ⟨ua,uc,hue⟩:=Rf.own_len hrow
  subst hue
  have c0:=Rf.cell_blk hblk1 0 (.int .i64 1) rfl
  have c3:=Rf.cell_blk hblk1 3 (.slice ua x.parts.length uc) rfl
  generalize bl B n=a at *
  clear hblk hblk1 hE hr hui hrow hIH
  go_enter Tryz.func104,Tryz.ntmps104
  go_wp2_with (go_at_call 131
               refine hA.mono ?_
               rintro e w1 ⟨rfl,v1,V1,hM1,hv1⟩
               obtain ⟨e4,d1,d2,d3⟩:=ad_done hM hTr.lt hM1 hv1 ⟨rf,rl,re⟩
               have e4:=e4.reads
               unfold En.zero PB.zero at e4
               obtain ⟨z0,z1,z2,z3,z4,zf⟩:=e4)
  change bodyPost _ _ _ _ _ (setEn w1 w.heap.size ⟨rf,rl,re⟩)
  generalize setEn w1 w.heap.size ⟨rf,rl,re⟩=w6 at *
  obtain ⟨R0,R1,R2,R3,R4,_⟩:=d1.reads
  refine bodyPost_ret (by simp [results,Tryz.results104,go_sem,R0,R1,R2,R3,R4];try rfl) rfl ?_
  exact ⟨rfl,v1,V1,d2,d3⟩
set_option maxRecDepth 100000 in
set_option maxHeartbeats 2000000 in
theorem add_or (I:Nat→Prop) (b:Nat) (T:List PNode) (B:List Nat) (hT:G.WF T) (n:Nat) (x:PNode) (hx:T[n]?=some x) (hl:¬ G.lone x=true) (hk:x.kind=99) (hIH:∀ p ∈ x.parts,AddAt I b T B p):AddAt I b T B n:=by
  intro w v P V f hM hTr hsz
  have hN:=hTr.node n x hx
  unfold NodeAt at hN
  have hk115:¬ x.kind=115:=by omega
  have hnl:n < T.length:=(List.getElem?_eq_some_iff.1 hx).1
  have hps:∀ p ∈ x.parts,p < T.length:=fun p hp=>by have:=(hT n x hx).parts p hp;omega
  rw [if_neg hl,if_neg hk115] at hN
  obtain ⟨ha,u,hblk,hrow,hui⟩:=hN
  rw [G.lv_step hT hx,if_neg hk115] at hsz
  have hE:adN T n P=foldO T x.parts (P,⟨PB.zero,PB.zero,false⟩):=by
    rw [adN_eq hT hx,if_neg hl,if_neg hk115]
    rw [if_neg (by omega),if_pos hk]
  rw [hE]
  have hpl:=parts_len hT x.parts hps
  have hkn:kindN x.kind=2:=by rw [hk];rfl
  rw [hkn] at hblk
  have hb0:Below w.heap.size w (w.alloc (.cells #[.int .u64 0,.int .u64 0,.int .u64 0,.int .u64 0,.bool false] 184)):=(Below.refl _ w).alloc (Nat.le_refl _) _
  have hblk1:(w.alloc (.cells #[.int .u64 0,.int .u64 0,.int .u64 0,.int .u64 0,.bool false] 184)).heap[bl B n]?=_:=(hb0.block _ (lt_of_block hblk)).trans hblk
  have hA:=addor_any I b T B x.parts hIH hps hT _ v P V f u (hM.below hTr.lt hb0) (hTr.below hb0) ⟨Rf.own_same hrow (fun k e=>hb0.block k (hrow.lt k e).2),hui⟩ (by omega) hsz
  unfold APost at hA
  obtain ⟨r,hr⟩:∃ r,foldO T x.parts (P,⟨PB.zero,PB.zero,false⟩)=r:=⟨_,rfl⟩
  rw [hr] at hA ⊢
  obtain ⟨RP,rf,rl,re⟩:=r
  simp only at hA
  obtain ⟨ua,uc,hue⟩:=Rf.own_len hrow
  subst hue
  have c0:=Rf.cell_blk hblk1 0 (.int .i64 2) rfl
  have c3:=Rf.cell_blk hblk1 3 (.slice ua x.parts.length uc) rfl
  generalize bl B n=a at *
  clear hblk hblk1 hE hr hui hrow hIH
  go_enter Tryz.func104,Tryz.ntmps104
  go_wp2_with (go_at_call 132
               refine hA.mono ?_
               rintro e w1 ⟨rfl,v1,V1,hM1,hv1⟩
               obtain ⟨e4,d1,d2,d3⟩:=ad_done hM hTr.lt hM1 hv1 ⟨rf,rl,re⟩
               have e4:=e4.reads
               unfold En.zero PB.zero at e4
               obtain ⟨z0,z1,z2,z3,z4,zf⟩:=e4)
  change bodyPost _ _ _ _ _ (setEn w1 w.heap.size ⟨rf,rl,re⟩)
  generalize setEn w1 w.heap.size ⟨rf,rl,re⟩=w6 at *
  obtain ⟨R0,R1,R2,R3,R4,_⟩:=d1.reads
  refine bodyPost_ret (by simp [results,Tryz.results104,go_sem,R0,R1,R2,R3,R4];try rfl) rfl ?_
  exact ⟨rfl,v1,V1,d2,d3⟩
set_option maxRecDepth 100000 in
set_option maxHeartbeats 4000000 in
theorem add_rep (I:Nat→Prop) (b:Nat) (T:List PNode) (B:List Nat) (hT:G.WF T) (n:Nat) (x:PNode) (hx:T[n]?=some x) (hl:¬ G.lone x=true) (hk:x.kind=42 ∨ x.kind=43 ∨ x.kind=63) (p:Nat) (hp:x.parts=[p]) (hIH:AddAt I b T B p):AddAt I b T B n:=by
  intro w v P V f hM hTr hsz
  have hN:=hTr.node n x hx
  unfold NodeAt at hN
  have hk115:¬ x.kind=115:=by omega
  have hnl:n < T.length:=(List.getElem?_eq_some_iff.1 hx).1
  have hps:p < T.length:=by have:=(hT n x hx).parts p (by rw [hp];simp);omega
  rw [if_neg hl,if_neg hk115] at hN
  obtain ⟨ha,u,hblk,hrow,hui⟩:=hN
  rw [G.lv_step hT hx,if_neg hk115,hp] at hsz
  have hsz':P.length + (G.lv T p).length≤100:=by simpa using hsz
  have hE:adN T n P=repStep x.kind (adN T p P):=by
    rw [adN_eq hT hx,if_neg hl,if_neg hk115,if_neg (by omega),if_neg (by omega),hp]
    rfl
  rw [hE]
  have hb0:Below w.heap.size w (w.alloc (.cells #[.int .u64 0,.int .u64 0,.int .u64 0,.int .u64 0,.bool false] 184)):=(Below.refl _ w).alloc (Nat.le_refl _) _
  have hblk1:(w.alloc (.cells #[.int .u64 0,.int .u64 0,.int .u64 0,.int .u64 0,.bool false] 184)).heap[bl B n]?=_:=(hb0.block _ (lt_of_block hblk)).trans hblk
  have hA:∀ w2:World,w2.heap=(w.alloc (.cells #[.int .u64 0,.int .u64 0,.int .u64 0,.int .u64 0,.bool false] 184)).heap→_:=fun w2 h2=>addrep_any I b T B p x.kind hIH hps hT hk w2 v P V f ((hM.below hTr.lt hb0).same (fun k _=>by rw [h2])) ((hTr.below hb0).same (by rw [h2];exact Nat.le_refl _) (fun k _=>by rw [h2])) hsz'
  unfold APost at hA
  obtain ⟨r,hr⟩:∃ r,repStep x.kind (adN T p P)=r:=⟨_,rfl⟩
  rw [hr]
  simp only [hr] at hA
  obtain ⟨RP,rf,rl,re⟩:=r
  simp only at hA
  rw [hp] at hrow
  have hrow1:=Rf.own_same (w':=(w.alloc (.cells #[.int .u64 0,.int .u64 0,.int .u64 0,.int .u64 0,.bool false] 184))) hrow (fun k e=>hb0.block k (hrow.lt k e).2)
  obtain ⟨g,cap,hv,_,_⟩:=hrow1.form (by simp)
  subst hv
  have d0:(w.alloc (.cells #[.int .u64 0,.int .u64 0,.int .u64 0,.int .u64 0,.bool false] 184)).cell? ⟨g,0,none⟩=some (.pointer (some ⟨bl B p,0,none⟩)):=own_cell' hrow1 0 (by simp [ptrs,pv])
  have c0:=Rf.cell_blk hblk1 0 (.int .i64 (kindN x.kind:Int)) rfl
  have c3:=Rf.cell_blk hblk1 3 (.slice (some ⟨g,0,none⟩) 1 cap) rfl
  have hkn:((kindN x.kind:Int) == 0)=false∧((kindN x.kind:Int) == 1)=false∧((kindN x.kind:Int) == 2)=false:=by
    rcases hk with h | h | h <;> rw [h] <;> exact ⟨rfl,rfl,rfl⟩
  obtain ⟨hk0,hk1,hk2⟩:=hkn
  generalize kindN x.kind=kk at *
  generalize bl B n=a at *
  generalize bl B p=ap at *
  clear hblk hblk1 hE hr hui hrow hIH hrow1
  go_enter Tryz.func104,Tryz.ntmps104
  go_wp2_with (fail)
  go_region_with (go_at_call 133;refine (hA (w.alloc (.cells #[.int .u64 0,.int .u64 0,.int .u64 0,.int .u64 0,.bool false] 184)).drew rfl).mono ?_;rintro e w1 ⟨rfl,v1,V1,hM1,hv1⟩;obtain ⟨e4,d1,d2,d3⟩:=ad_done hM hTr.lt hM1 (Mv.trans (Mv.of_below ((Below.refl _ _).drew)) hv1) ⟨rf,rl,re⟩;have e4:=e4.reads;unfold En.zero PB.zero at e4;obtain ⟨z0,z1,z2,z3,z4,zf⟩:=e4)
  all_goals
    go_wp2
    change bodyPost _ _ _ _ _ (setEn w1 w.heap.size ⟨rf,rl,re⟩)
    generalize setEn w1 w.heap.size ⟨rf,rl,re⟩=w6 at *
    obtain ⟨R0,R1,R2,R3,R4,_⟩:=d1.reads
    refine bodyPost_ret (by simp [results,Tryz.results104,go_sem,R0,R1,R2,R3,R4];try rfl) rfl ?_
    exact ⟨rfl,v1,V1,d2,d3⟩
theorem add_any (I:Nat→Prop) (b:Nat) (T:List PNode) (B:List Nat) (hT:G.WF T):∀ n,n < T.length→AddAt I b T B n:=by
  intro n
  induction n using Nat.strongRecOn with
  | ind n ih =>
    intro hn
    have hx:T[n]?=some (T[n]'hn):=List.getElem?_eq_getElem hn
    generalize T[n]'hn=x at hx
    have hps:=(hT n x hx).parts
    have hIH:∀ p ∈ x.parts,AddAt I b T B p:=fun p hp=>ih p (hps p hp) (by have:=hps p hp;omega)
    by_cases hl:G.lone x=true
    · intro w v P V f hM hTr hsz
      obtain ⟨p,hp⟩:=G.lone_head hl
      have hN:=hTr.node n x hx
      unfold NodeAt at hN
      rw [if_pos hl,hp] at hN
      have hk:x.kind ≠ 115:=by
        have:=(lone_iff'.1 hl).1
        omega
      rw [G.lv_step hT hx,if_neg hk,hp] at hsz
      have hE:adN T n P=adN T p P:=by
        rw [adN_eq hT hx,if_pos hl,hp]
        rfl
      rw [hN,hE]
      exact hIH p (by rw [hp];simp) w v P V f hM hTr (by simpa using hsz)
    · rcases (hT n x hx).kind with ⟨k,_⟩ | ⟨k,_⟩ | ⟨k,h1⟩
      · exact add_set I b T B hT n x hx hl k
      · rcases k with k | k
        · exact add_seq I b T B hT n x hx hl k hIH
        · exact add_or I b T B hT n x hx hl k hIH
      · obtain ⟨p,hp⟩:=List.length_eq_one_iff.1 h1
        exact add_rep I b T B hT n x hx hl k p hp (hIH p (by rw [hp];simp))
end Pr
end Go.Proofs.YtpgcidpghmoibaaGreatDoor
