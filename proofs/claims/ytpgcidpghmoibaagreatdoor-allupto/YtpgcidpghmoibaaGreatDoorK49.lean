/-
  THE WALK of the world's step
  THE WALK of the world's step, the rest
  THE WALK of the statement All's law
  A SCRIPT that came in, read
-/
import Derived.Test.YtpgcidpghmoibaaGreatDoorK27
import Derived.Test.YtpgcidpghmoibaaGreatDoorK48
import Derived.Deep.RegionHeld3
import Derived.Test.YtpgcidpghmoibaaGreatDoorK28
import Derived.Deep.Slices
import Derived.Test.YtpgcidpghmoibaaGreatDoorRows
import Derived.ProofKit
namespace Go.Proofs.YtpgcidpghmoibaaGreatDoor
namespace Pr
open Go.RowKit
open G (PNode)
open Cs
def pickU (c:Int) (m:Nat):Nat:=((if c < 0 then -(c + 1) else c).tmod (m:Int)).toNat
theorem pickU_lt (c:Int) (m:Nat) (hm:0 < m):pickU c m < m:=by
  unfold pickU
  have key:∀ x:Int,0≤x→(x.tmod (m:Int)).toNat < m:=fun x hx=>by
    have:=Int.tmod_lt_of_pos x (show (0:Int) < (m:Int) by omega)
    have h0:=Int.tmod_nonneg (m:Int) hx
    omega
  split
  · exact key _ (by omega)
  · exact key _ (by omega)
set_option maxRecDepth 100000 in
theorem picku_any (c:Int) (m:Nat) (hm:0 < m) (hm2:m≤9223372036854775807) (w:World) (h1:-9223372036854775808≤c) (h2:c≤9223372036854775807):Calls Tryz.prog 74 #[.int .i64 c,.int .i64 (m:Int)] w fun e w'=>e=.returned (.int .i64 ((pickU c m:Nat):Int))∧w'=w:=by
  have hm0:((m:Int) == 0)=false:=by simp;omega
  have hmz:¬ (m:Int)=0:=by omega
  have key:∀ x:Int,0≤x→x≤9223372036854775807→∃ k:Nat,x.tmod (m:Int)=(k:Int)∧k=(x.tmod (m:Int)).toNat∧(k:Int)≤9223372036854775807:=fun x hx hx2=>⟨(x.tmod (m:Int)).toNat,by
    have h0:=Int.tmod_nonneg (m:Int) hx
    omega,rfl,by
    have:=Int.tmod_lt_of_pos x (show (0:Int) < (m:Int) by omega)
    have h0:=Int.tmod_nonneg (m:Int) hx
    omega⟩
  by_cases hc:c < 0
  · have hw3:IntKind.i64.wrap (c + 1)=c + 1:=by rw [IntKind.wrap_i64];omega
    have hw4:IntKind.i64.wrap (-(c + 1))=-(c + 1):=by rw [IntKind.wrap_i64];omega
    obtain ⟨k,he,hk,hk2⟩:=key (-(c + 1)) (by omega) (by omega)
    have hv:pickU c m=k:=by unfold pickU;rw [if_pos hc,← hk]
    rw [hv]
    clear hv hk
    go_enter Tryz.func74,Tryz.ntmps74
    go_wp2
    go_ret
    exact ⟨by first | rfl | (rw [← he];first | rfl | (congr 2;omega)),rfl⟩
  · obtain ⟨k,he,hk,hk2⟩:=key c (by omega) (by omega)
    have hv:pickU c m=k:=by unfold pickU;rw [if_neg hc,← hk]
    rw [hv]
    clear hv hk
    go_enter Tryz.func74,Tryz.ntmps74
    go_wp2
    go_ret
    exact ⟨by first | rfl | (rw [← he];first | rfl | (congr 2;omega)),rfl⟩
theorem prs_cells {w:World} {e n cap:Nat} {la:Option Addr} {l:List (Nat × Nat)} (h:w.ownsRow 0 e 2 (.slice la n cap) n (prs l)) {k:Nat} {p:Nat × Nat} (hx:l[k]?=some p) (hk:k < n) :
    ∃ g,la=some ⟨g,0,none⟩∧w.cell? ⟨g,k * 2,none⟩=some (pv p.1)∧w.cell? ⟨g,k * 2 + 1,none⟩=some (pv p.2):=by
  obtain ⟨g,cap,hv,_,hlt⟩:=h.form (by omega)
  simp only [Value.slice.injEq] at hv
  obtain ⟨rfl,_,rfl⟩:=hv
  have hg:=prs_get l k p hx
  exact ⟨g,rfl,by rw [h.cellAt _ (by omega)];exact hg.1,by rw [h.cellAt _ (by omega)];exact hg.2⟩
section
variable (w:World) (b x c:Nat) (col:Nat→Nat) (vr vc:Value) (Ps Cs:List (Nat × Nat))
structure StepAt (w:World) (b x c:Nat) (col:Nat→Nat) (vr vc:Value) (Ps Cs:List (Nat × Nat)):Prop where
  ws:Ws w b x c col vr vc Ps Cs
  tabs:Tabs w
  hc:c≤99999990
  hp:Ps.length≤100000000
  hs:Cs.length≤100000000
theorem StepAt.below {w w':World} {b x c:Nat} {col:Nat→Nat} {vr vc:Value} {Ps Cs:List (Nat × Nat)} (h:StepAt w b x c col vr vc Ps Cs) (hb:Below w.heap.size w w'):StepAt w' b x c col vr vc Ps Cs:=
  ⟨h.ws.below hb,h.tabs.below hb,h.hc,h.hp,h.hs⟩
theorem StepPost.after {w w0 w':World} {b x c:Nat} {col:Nat→Nat} {Ps Cs:List (Nat × Nat)} {e:Ending} (h:StepPost w0 b x c col Ps Cs e w') (hb:Below w.heap.size w w0):StepPost w b x c col Ps Cs e w':=by
  obtain ⟨he,c',col',vr',vc',Ps',Cs',h1,h2,h3⟩:=h
  exact ⟨he,c',col',vr',vc',Ps',Cs',h1,(Fr.of_below hb).trans h2,h3⟩
set_option maxRecDepth 100000 in
set_option maxHeartbeats 4000000 in
theorem step_units (h:StepAt w b x c col vr vc Ps Cs) (on:Int) (s t:ByteArray) (ht:t.size≤maxLen) (i a d:Int) :
    Calls Tryz.prog 48 #[pv b,opV 1 on s t i a d] w fun e w'=>StepPost w b x c col Ps Cs e w':=by
  have hb1:Below w.heap.size w (w.alloc (opO 1 on s t i a d)):=(Below.refl _ _).alloc (Nat.le_refl _) _
  have h1:=h.below hb1
  have hn:=heap_alloc_new w (opO 1 on s t i a d)
  have o0:=Rf.cell_blk hn 0 (.int .i64 1) rfl
  have o3:=Rf.cell_blk hn 3 (.string t) rfl
  have b0:=Rf.cell_blk h1.ws.blk 0 (pv x) rfl
  have hdr:Below (w.alloc (opO 1 on s t i a d)).heap.size (w.alloc (opO 1 on s t i a d)) (w.alloc (opO 1 on s t i a d)).drew:=(Below.refl _ _).drew
  have hM:=bunits_any t (w.alloc (opO 1 on s t i a d)).drew x (fun k=>col k=2) c (h1.ws.book.below hdr) h.hc ht
  have HW:Hid _:=And.intro (h1.ws.below hdr) (Fr.of_below (col:=col) (hb1.trans (hdr.mono hb1.size)))
  clear h hb1 h1 hn hdr
  go_enter Tryz.func48,Tryz.ntmps48
  go_wp2
  generalize (w.alloc (opO 1 on s t i a d))=W at *
  refine still_tail 6 (by kernel_rfl) (by kernel_rfl) ?_
  simp only [List.take_succ_cons,List.take_zero,List.drop_succ_cons,List.drop_zero]
  repeat still_step
  refine wpStill_nil ?_
  go_wp2_with fail
  refine hM.mono ?_
  rintro e w3 ⟨rfl,hB3,hK3⟩
  obtain ⟨col3,hW3,hF3⟩:=Ws.kept HW.out.1 hK3 hB3
  have HW3:Hid _:=And.intro hW3 hF3
  clear hB3 hK3 hW3 hF3
  go_wp2
  go_ret
  exact ⟨rfl,c + 4,col3,vr,vc,Ps,Cs,HW3.out.1,HW.out.2.trans HW3.out.2,by omega,by omega,by omega⟩
set_option maxRecDepth 100000 in
set_option maxHeartbeats 4000000 in
theorem step_load (h:StepAt w b x c col vr vc Ps Cs) (on:Int) (s t:ByteArray) (ht:t.size≤maxLen) (i a d:Int) :
    Calls Tryz.prog 48 #[pv b,opV 8 on s t i a d] w fun e w'=>StepPost w b x c col Ps Cs e w':=by
  have hb1:Below w.heap.size w (w.alloc (opO 8 on s t i a d)):=(Below.refl _ _).alloc (Nat.le_refl _) _
  have h1:=h.below hb1
  have hn:=heap_alloc_new w (opO 8 on s t i a d)
  have o0:=Rf.cell_blk hn 0 (.int .i64 8) rfl
  have o3:=Rf.cell_blk hn 3 (.string t) rfl
  have hL:=load_all (w.alloc (opO 8 on s t i a d)) t ht h1.tabs
  have HW:Hid _:=And.intro h1.ws (Fr.of_below (col:=col) hb1)
  clear h hb1 h1 hn
  go_enter Tryz.func48,Tryz.ntmps48
  go_wp2_with fail
  generalize (w.alloc (opO 8 on s t i a d))=W at *
  refine hL.mono ?_
  rintro e w3 ⟨hb3,rfl | ⟨b3,T3,Q3,_,_,_,rfl,_⟩⟩
  all_goals
    have HW3:Hid _:=And.intro (Ws.below HW.out.1 hb3) (Fr.trans HW.out.2 (Fr.of_below hb3))
    clear hb3 HW hL o0 o3
    go_wp2
    go_ret
    exact ⟨rfl,c,col,vr,vc,Ps,Cs,HW3.out.1,HW3.out.2,by omega,by omega,by omega⟩
set_option maxRecDepth 100000 in
set_option maxHeartbeats 4000000 in
theorem step_compile (h:StepAt w b x c col vr vc Ps Cs) (on:Int) (s t:ByteArray) (hm:s.size≤maxLen) (i a d:Int) :
    Calls Tryz.prog 48 #[pv b,opV 2 on s t i a d] w fun e w'=>StepPost w b x c col Ps Cs e w':=by
  obtain ⟨i0,hi,hz0,hz1,hz2⟩:=info_parts infoPair
  have hb1:Below w.heap.size w (w.alloc (opO 2 on s t i a d)):=(Below.refl _ _).alloc (Nat.le_refl _) _
  have h1:=h.below hb1
  have hn:=heap_alloc_new w (opO 2 on s t i a d)
  have o0:=Rf.cell_blk hn 0 (.int .i64 2) rfl
  have o2:=Rf.cell_blk hn 2 (.string s) rfl
  have hL:=compiled_any (w.alloc (opO 2 on s t i a d)) s hm h1.tabs
  have HW:Hid _:=And.intro h1.ws (Fr.of_below (col:=col) hb1)
  have hPl:=h.hp
  clear h hb1 h1 hn
  go_enter Tryz.func48,Tryz.ntmps48
  go_wp2_with fail
  generalize (w.alloc (opO 2 on s t i a d))=W at *
  refine hL.mono ?_
  rintro e w3 ⟨hb3,⟨q,rfl⟩ | ⟨r',q,T,Q,rfl,hB,hqN⟩⟩
  · have HW3:Hid _:=And.intro (Ws.below HW.out.1 hb3) (Fr.trans HW.out.2 (Fr.of_below hb3))
    clear hb3 HW hL o0 o2
    go_wp2
    go_ret
    exact ⟨rfl,c,col,vr,vc,Ps,Cs,HW3.out.1,HW3.out.2,by omega,by omega,by omega⟩
  · have hW3:=Ws.below HW.out.1 hb3
    have hF3:=Fr.trans HW.out.2 (Fr.of_below hb3)
    have hN3:∀ k,col k ≠ 0→k < W.heap.size:=HW.out.1.lt
    have hP4:=PairAt.froze (col:=col) (Both.pair hB hqN)
    obtain ⟨hW4,hF4⟩:=hW3.freeze (N:=W.heap.size) hN3
    obtain ⟨ca,cb,hvc⟩:=own_len' hW4.oR
    subst hvc
    have d1:=Rf.cell_blk hW4.blk 1 (.slice ca Ps.length cb) rfl
    have HW4:Hid (Ws w3 b x c (froze w3 W.heap.size col) (.slice ca Ps.length cb) vc Ps Cs):=hW4
    have HP4:Hid (PairAt w3 (fun k=>froze w3 W.heap.size col k=1) r' q):=hP4
    have HF4:Hid (Fr col w (froze w3 W.heap.size col) w3):=hF3.trans hF4
    have oR:=hW4.oR
    have hbl:=lt_of_block hW4.blk
    clear hL hb3 hB hP4 hW3 hF3 hW4 hF4 o0 o2 HW hN3
    go_wp2_with
      (at_builtin
       refine wpList_append_lies _ rfl (.tmp 37) (.tmp 41) 97 rfl 0 136 i0 (.agg #[.pointer none,.pointer none]) 2 16 Tryz.underlying97 hi hz0 hz1 hz2 rfl (by decide) _ _ _ rfl (oR.alloc _) ⟨w3.heap.size,0,none⟩ 1 1 [pv r',pv q] rfl rfl (World.news_of_block (cs:=#[pv r',pv q]) (t:=136) (fr:=(0,0)) (heap_alloc_new _ _)) (fun y hy=>by simp at hy;rcases hy with rfl | rfl <;> rfl) (by decide) (by unfold maxLen;omega) (by omega) (by simp) (w3.heap.size + 1) (by simp) ?_
       intro g5 cap5 w5 hn5 hg5 hat5 hlt5
       have hb5:w5.heap[b]?=_:=(hg5.block b (by simp;omega) (fun e=>by have:=HW4.out.cR b e.symm;rw [HW4.out.cb] at this;omega)).trans ((Below.heap_alloc _ _ _ hbl).trans HW4.out.blk)
       have cb5:=Rf.cell_blk hb5 1 (.slice ca Ps.length cb) rfl
       have fb5:=Rf.free_blk hb5 1)
    obtain ⟨col5,hW5,hF5⟩:=HW4.out.addP (w2:=w5) HP4.out ((Kept.refl _ _).alloc _) hg5 hn5 (hat5.imp id (fun h=>by omega)) hlt5
    go_ret
    exact ⟨rfl,c,col5,_,vc,_,Cs,hW5,HF4.out.trans hF5,by omega,by simp,by omega⟩
end
end Pr
end Go.Proofs.YtpgcidpghmoibaaGreatDoor

namespace Go.Proofs.YtpgcidpghmoibaaGreatDoor
namespace Pr
open Go.RowKit
open G (PNode)
open Cs
theorem Ws.move {w w':World} {b x c:Nat} {col:Nat→Nat} {vr vc:Value} {Ps Cs:List (Nat × Nat)} (h:Ws w b x c col vr vc Ps Cs) {i p q:Nat} (hi:Cs[i]?=some (p,q)) {v u:Value} {B:List Nat} (hBn:Bn B) (cp:col p=6 + 2 * i) (cq:col q=7 + 2 * i) (hv:∀ k,v.ownBlock=some k→col k=1) (hu:∀ k,u.ownBlock=some k→col k=1)
    {a:Nat} (hT:Two w' p q v u B a) (hK:Rf.Kept (fun k=>k ≠ p∧k ≠ q) w w'):Ws w' b x c col vr vc Ps Cs∧Fr col w col w':=by
  have key:∀ k,col k ≠ 0→col k ≠ 6 + 2 * i→col k ≠ 7 + 2 * i→w'.heap[k]?=w.heap[k]?:=fun k h0 h1 h2=>hK.block k (h.lt k h0) ⟨fun e=>h1 (e ▸ cp),fun e=>h2 (e ▸ cq)⟩
  have k1:∀ k n,col k=n→n ≠ 0→n < 6→w'.heap[k]?=w.heap[k]?:=fun k n e h0 h1=>key k (by omega) (by omega) (by omega)
  refine ⟨⟨(k1 b 3 h.cb (by omega) (by omega)).trans h.blk,h.book.same hK.size (fun k _ e=>k1 k 2 e (by omega) (by omega)),h.cb,own_same h.oR (fun k e=>k1 k 4 (h.cR k e) (by omega) (by omega)),own_same h.oC (fun k e=>k1 k 5 (h.cC k e) (by omega) (by omega)),h.cR,h.cC,fun r hr=>(h.pairs r hr).same hK.size (fun k e _=>k1 k 1 e (by omega) (by omega)),fun j r hr=>?_,fun k e=>Nat.lt_of_lt_of_le (h.lt k e) hK.size,fun k e=>?_⟩,⟨⟨hK.os,hK.tape,hK.output,hK.size,fun k hk e=>hK.block k hk ⟨fun e2=>by have e:col k < 2:=e;rw [e2,cp] at e;omega,fun e2=>by have e:col k < 2:=e;rw [e2,cq] at e;omega⟩⟩,fun k _ e=>e⟩⟩
  · by_cases hj:j=i
    · subst hj
      rw [hi,Option.some.injEq] at hr
      subst hr
      exact ⟨v,u,B,a,hT,hBn,cp,cq,hv,hu⟩
    · obtain ⟨v',u',B',a',g1,g2,g3,g4,g5,g6⟩:=h.curs j r hr
      refine ⟨v',u',B',a',two_same g1 (fun k e=>?_),g2,g3,g4,g5,g6⟩
      rcases e with rfl | rfl | e | e
      · exact key _ (by omega) (by omega) (by omega)
      · exact key _ (by omega) (by omega) (by omega)
      · exact k1 k 1 (g5 k e) (by omega) (by omega)
      · exact k1 k 1 (g6 k e) (by omega) (by omega)
  · by_cases e1:k=p
    · subst e1;exact ⟨_,⟨_,hT.p.blk⟩,by decide⟩
    · by_cases e2:k=q
      · subst e2;exact ⟨_,⟨_,hT.r.blk⟩,by decide⟩
      · exact (h.ty k e).same (hK.block k (h.lt k (by omega)) ⟨e1,e2⟩)
section
variable (w:World) (b x c:Nat) (col:Nat→Nat) (vr vc:Value) (Ps Cs:List (Nat × Nat))
set_option maxRecDepth 100000 in
set_option maxHeartbeats 4000000 in
theorem step_still (h:StepAt w b x c col vr vc Ps Cs) (h0:Cs.length=0) (on:Int) (s t:ByteArray) (i a d:Int) :
    Calls Tryz.prog 48 #[pv b,opV 6 on s t i a d] w fun e w'=>StepPost w b x c col Ps Cs e w':=by
  have hb1:Below w.heap.size w (w.alloc (opO 6 on s t i a d)):=(Below.refl _ _).alloc (Nat.le_refl _) _
  have h1:=h.below hb1
  have hn:=heap_alloc_new w (opO 6 on s t i a d)
  have o0:=Rf.cell_blk hn 0 (.int .i64 6) rfl
  obtain ⟨ca,cb,hvc⟩:=own_len' h.ws.oC
  subst hvc
  rw [h0] at h1
  have b2:=Rf.cell_blk h1.ws.blk 2 (.slice ca 0 cb) rfl
  have HW:Hid _:=And.intro h1.ws (Fr.of_below (col:=col) hb1)
  clear h hb1 h1 hn
  go_enter Tryz.func48,Tryz.ntmps48
  go_wp2
  go_ret
  exact ⟨rfl,c,col,vr,_,Ps,Cs,HW.out.1,HW.out.2,by omega,by omega,by omega⟩
set_option maxRecDepth 100000 in
set_option maxHeartbeats 4000000 in
theorem step_move (h:StepAt w b x c col vr vc Ps Cs) (h0:0 < Cs.length) (on:Int) (s t:ByteArray) (i a d:Int) (ho:-9223372036854775808≤on∧on≤9223372036854775807) (hi:-9223372036854775808≤i∧i≤9223372036854775807) (ha:-2147483648≤a∧a≤2147483647) :
    Calls Tryz.prog 48 #[pv b,opV 6 on s t i a d] w fun e w'=>StepPost w b x c col Ps Cs e w':=by
  have hb1:Below w.heap.size w (w.alloc (opO 6 on s t i a d)):=(Below.refl _ _).alloc (Nat.le_refl _) _
  have h1:=h.below hb1
  have hn:=heap_alloc_new w (opO 6 on s t i a d)
  have hln:=lt_of_block hn
  have o0:=Rf.cell_blk hn 0 (.int .i64 6) rfl
  have o1:=Rf.cell_blk hn 1 (.int .i64 on) rfl
  have o4:=Rf.cell_blk hn 4 (.int .i64 i) rfl
  have o5:=Rf.cell_blk hn 5 (.int .i32 a) rfl
  have hsl:=h.hs
  have hwa:IntKind.i64.wrap a=a:=by rw [IntKind.wrap_i64];omega
  have hbW:=lt_of_block h1.ws.blk
  obtain ⟨ca,cb,hvc⟩:=own_len' h.ws.oC
  subst hvc
  have b2:=Rf.cell_blk h1.ws.blk 2 (.slice ca Cs.length cb) rfl
  have hj:=pickU_lt on Cs.length h0
  have hP:=fun W=>picku_any on Cs.length h0 (by omega) W ho.1 ho.2
  have hP8:=fun W=>picku_any i 8 (by omega) (by omega) W hi.1 hi.2
  generalize pickU on Cs.length=j at hj hP
  generalize pickU i 8=j8 at hP8
  have hg:Cs[j]?=some Cs[j]:=List.getElem?_eq_getElem hj
  generalize Cs[j]=pq at hg
  obtain ⟨p,q⟩:=pq
  obtain ⟨g,hca,e0,e1⟩:=prs_cells h1.ws.oC hg hj
  subst hca
  have hgW:=(h1.ws.oC.lt g rfl).2
  obtain ⟨v,u,B,a',hTw,hBn,cp,cq,hv,hu⟩:=h1.ws.curs j (p,q) hg
  have hne:((Cs.length:Int) == 0)=false:=by rw [beq_eq_false_iff_ne];omega
  have hj0:(0:Int)≤(j:Int):=by omega
  have hjl:(j:Int) < (Cs.length:Int):=by omega
  have HW:Hid _:=And.intro h1.ws (Fr.of_below (col:=col) hb1)
  have HT:Hid _:=And.intro hTw (And.intro hBn (And.intro cp (And.intro cq (And.intro hv hu))))
  have HG:Hid (Cs[j]?=some (p,q)):=hg
  clear h hb1 h1 hn hTw hBn cp cq hv hu hg
  go_enter Tryz.func48,Tryz.ntmps48
  go_wp2
  generalize (w.alloc (opO 6 on s t i a d))=W at *
  have n1:b ≠ W.heap.size:=by omega
  have n2:g ≠ W.heap.size:=by omega
  have n3:w.heap.size ≠ W.heap.size:=by omega
  go_region_held3 (fun w'=>w'.cell? ⟨b,2,none⟩=some (.slice (some ⟨g,0,none⟩) Cs.length cb)∧w'.cell? ⟨w.heap.size,1,none⟩=some (.int .i64 on)∧w'.cell? ⟨g,j * 2,none⟩=some (pv p)∧w'.cell? ⟨g,j * 2 + 1,none⟩=some (pv q)) (go_keep)
    (first | (go_at_call 74;refine (hP _).mono ?_;rintro e w' ⟨rfl,rfl⟩))
  all_goals
    rename_i hHeld
    clear hHeld n1 n2 n3 e0 e1 b2 o0 o1
    have hb2:Below W.heap.size W (W.alloc (.cells #[pv p,pv q] 138)).drew:=((Below.refl _ _).alloc (Nat.le_refl _) _).drew
    have s0:(W.alloc (.cells #[pv p,pv q] 138)).drew.cell? ⟨W.heap.size,0,none⟩=some (pv p):=Rf.cell_blk (heap_alloc_new W (.cells #[pv p,pv q] 138)) 0 (pv p) rfl
    have s1:(W.alloc (.cells #[pv p,pv q] 138)).drew.cell? ⟨W.heap.size,1,none⟩=some (pv q):=Rf.cell_blk (heap_alloc_new W (.cells #[pv p,pv q] 138)) 1 (pv q) rfl
    have q4:=(hb2.cell (p:=⟨w.heap.size,4,none⟩) hln).trans o4
    have q5:=(hb2.cell (p:=⟨w.heap.size,5,none⟩) hln).trans o5
    have HW2:Hid _:=And.intro (Ws.below HW.out.1 hb2) (Fr.trans HW.out.2 (Fr.of_below hb2))
    have hTw2:=HT.out.1.below hb2
    clear o4 o5 hb2
    generalize (W.alloc (.cells #[pv p,pv q] 138)).drew=W2 at *
    generalize W.heap.size=gs at *
    go_wp2
    have hdr:Below W2.heap.size W2 W2.drew:=(Below.refl _ _).drew
    have hM:=moves_any W2.drew p q v u B a' (hTw2.below hdr) HT.out.2.1 (j8:Int) a
    refine still_tail 11 (by kernel_rfl) (by kernel_rfl) ?_
    simp only [List.take_succ_cons,List.take_zero,List.drop_succ_cons,List.drop_zero]
    repeat still_step
    still_call (hP8 _)
    repeat still_step
    refine wpStill_nil ?_
    go_wp2_with fail
    refine hM.mono ?_
    rintro e w3 ⟨rfl,⟨a3,hT3⟩,hK3⟩
    obtain ⟨hW3,hF3⟩:=(Ws.below HW2.out.1 hdr).move HG.out HT.out.2.1 HT.out.2.2.1 HT.out.2.2.2.1 HT.out.2.2.2.2.1 HT.out.2.2.2.2.2 hT3 hK3
    have HW3:Hid _:=And.intro hW3 (((Fr.trans HW2.out.2 (Fr.of_below hdr))).trans hF3)
    clear hW3 hF3 hT3 hK3 hM hdr hTw2
    go_wp2
    go_ret
    exact ⟨rfl,c,col,vr,_,Ps,Cs,HW3.out.1,HW3.out.2,by omega,by omega,by omega⟩
set_option maxRecDepth 100000 in
set_option maxHeartbeats 4000000 in
theorem step_bare (h:StepAt w b x c col vr vc Ps Cs) (h0:Ps.length=0) (kd on:Int) (k1:(kd == 1)=false) (k2:(kd == 2)=false) (k8:(kd == 8)=false) (k6:(kd == 6)=false) (s t:ByteArray) (i a d:Int) :
    Calls Tryz.prog 48 #[pv b,opV kd on s t i a d] w fun e w'=>StepPost w b x c col Ps Cs e w':=by
  have hb1:Below w.heap.size w (w.alloc (opO kd on s t i a d)):=(Below.refl _ _).alloc (Nat.le_refl _) _
  have h1:=h.below hb1
  have hn:=heap_alloc_new w (opO kd on s t i a d)
  have o0:=Rf.cell_blk hn 0 (.int .i64 kd) rfl
  obtain ⟨ca,cb,hvc⟩:=own_len' h.ws.oR
  subst hvc
  rw [h0] at h1
  have b2:=Rf.cell_blk h1.ws.blk 1 (.slice ca 0 cb) rfl
  have HW:Hid _:=And.intro h1.ws (Fr.of_below (col:=col) hb1)
  clear h hb1 h1 hn
  go_enter Tryz.func48,Tryz.ntmps48
  go_wp2
  go_ret
  exact ⟨rfl,c,col,_,vc,Ps,Cs,HW.out.1,HW.out.2,by omega,by omega,by omega⟩
theorem asks_any (r q:Nat) (h:AskAt w b x c col vr vc Ps Cs r q) (hT:Tabs w) (kd on:Int) (s t:ByteArray) (ht:t.size≤maxLen) (i a d:Int) (ha:-2147483648≤a∧a≤2147483647) (hd:-2147483648≤d∧d≤2147483647) :
    Calls Tryz.prog 75 #[pv b,.agg #[pv r,pv q],opV kd on s t i a d] w fun e w'=>StepPost w b x c col Ps Cs e w':=by
  by_cases e3:kd=3
  · subst e3;exact asks_tells w b x c col vr vc Ps Cs r q h on s t i a d ha hd
  by_cases e4:kd=4
  · subst e4;exact asks_cut w b x c col vr vc Ps Cs r q h on s t ht i a d
  by_cases e5:kd=5
  · subst e5;exact asks_over w b x c col vr vc Ps Cs r q h on s t ht i a d
  by_cases e7:kd=7
  · subst e7;exact asks_pack w b x c col vr vc Ps Cs r q h hT on s t i a d
  exact asks_none w b x c col vr vc Ps Cs r q h kd on s t i a d (by simpa using e3) (by simpa using e4) (by simpa using e5) (by simpa using e7)
set_option maxRecDepth 100000 in
set_option maxHeartbeats 4000000 in
theorem step_ask (h:StepAt w b x c col vr vc Ps Cs) (h0:0 < Ps.length) (kd on:Int) (k1:(kd == 1)=false) (k2:(kd == 2)=false) (k8:(kd == 8)=false) (k6:(kd == 6)=false) (s t:ByteArray) (ht:t.size≤maxLen) (i a d:Int) (ho:-9223372036854775808≤on∧on≤9223372036854775807) (ha:-2147483648≤a∧a≤2147483647) (hd:-2147483648≤d∧d≤2147483647) :
    Calls Tryz.prog 48 #[pv b,opV kd on s t i a d] w fun e w'=>StepPost w b x c col Ps Cs e w':=by
  have hb1:Below w.heap.size w (w.alloc (opO kd on s t i a d)):=(Below.refl _ _).alloc (Nat.le_refl _) _
  have hdr:Below (w.alloc (opO kd on s t i a d)).heap.size (w.alloc (opO kd on s t i a d)) (w.alloc (opO kd on s t i a d)).drew:=(Below.refl _ _).drew
  have h1:=h.below hb1
  have h2:=h1.below hdr
  have hn:=heap_alloc_new w (opO kd on s t i a d)
  have o0:=Rf.cell_blk hn 0 (.int .i64 kd) rfl
  have o1:=Rf.cell_blk hn 1 (.int .i64 on) rfl
  have o2:=Rf.cell_blk hn 2 (.string s) rfl
  have o3:=Rf.cell_blk hn 3 (.string t) rfl
  have o4:=Rf.cell_blk hn 4 (.int .i64 i) rfl
  have o5:=Rf.cell_blk hn 5 (.int .i32 a) rfl
  have o6:=Rf.cell_blk hn 6 (.int .i32 d) rfl
  have hsl:=h.hp
  obtain ⟨ca,cb,hvc⟩:=own_len' h.ws.oR
  subst hvc
  have b1:=Rf.cell_blk h1.ws.blk 1 (.slice ca Ps.length cb) rfl
  have hj:=pickU_lt on Ps.length h0
  have hP:=fun W=>picku_any on Ps.length h0 (by omega) W ho.1 ho.2
  generalize pickU on Ps.length=j at hj hP
  have hg:Ps[j]?=some Ps[j]:=List.getElem?_eq_getElem hj
  generalize Ps[j]=pq at hg
  obtain ⟨p,q⟩:=pq
  obtain ⟨g,hca,e0,e1⟩:=prs_cells h1.ws.oR hg hj
  subst hca
  have hA:=asks_any (w.alloc (opO kd on s t i a d)).drew b x c col _ vc Ps Cs p q ⟨h2.ws,h2.ws.pairs (p,q) (List.mem_of_getElem? hg),h.hc,h.hp,h.hs⟩ h2.tabs kd on s t ht i a d ha hd
  have hne:((Ps.length:Int) == 0)=false:=by rw [beq_eq_false_iff_ne];omega
  have hj0:(0:Int)≤(j:Int):=by omega
  have hjl:(j:Int) < (Ps.length:Int):=by omega
  have HB:Hid _:=hb1.trans (hdr.mono hb1.size)
  clear h hb1 h1 h2 hn hg hdr
  go_enter Tryz.func48,Tryz.ntmps48
  go_wp2
  generalize (w.alloc (opO kd on s t i a d))=W at *
  refine still_tail 16 (by kernel_rfl) (by kernel_rfl) ?_
  simp only [List.take_succ_cons,List.take_zero,List.drop_succ_cons,List.drop_zero]
  repeat still_step
  still_call (hP _)
  repeat still_step
  refine wpStill_nil ?_
  go_wp2_with fail
  refine hA.mono ?_
  rintro e w3 hpost
  obtain rfl:=hpost.1
  have HP:Hid _:=hpost.after HB.out
  clear hpost
  go_wp2
  go_ret
  exact ⟨rfl,HP.out.2⟩
theorem wstep_any (h:StepAt w b x c col vr vc Ps Cs) (kd on:Int) (s t:ByteArray) (hs:s.size≤maxLen) (ht:t.size≤maxLen) (i a d:Int) (ho:-9223372036854775808≤on∧on≤9223372036854775807) (hi:-9223372036854775808≤i∧i≤9223372036854775807) (ha:-2147483648≤a∧a≤2147483647) (hd:-2147483648≤d∧d≤2147483647) :
    Calls Tryz.prog 48 #[pv b,opV kd on s t i a d] w fun e w'=>StepPost w b x c col Ps Cs e w':=by
  by_cases e1:kd=1
  · subst e1;exact step_units w b x c col vr vc Ps Cs h on s t ht i a d
  by_cases e2:kd=2
  · subst e2;exact step_compile w b x c col vr vc Ps Cs h on s t hs i a d
  by_cases e8:kd=8
  · subst e8;exact step_load w b x c col vr vc Ps Cs h on s t ht i a d
  by_cases e6:kd=6
  · subst e6
    rcases Nat.eq_zero_or_pos Cs.length with e | e
    · exact step_still w b x c col vr vc Ps Cs h e on s t i a d
    · exact step_move w b x c col vr vc Ps Cs h e on s t i a d ho hi ha
  have k1:(kd == 1)=false:=by simpa using e1
  have k2:(kd == 2)=false:=by simpa using e2
  have k8:(kd == 8)=false:=by simpa using e8
  have k6:(kd == 6)=false:=by simpa using e6
  rcases Nat.eq_zero_or_pos Ps.length with e | e
  · exact step_bare w b x c col vr vc Ps Cs h e kd on k1 k2 k8 k6 s t i a d
  · exact step_ask w b x c col vr vc Ps Cs h e kd on k1 k2 k8 k6 s t ht i a d ho ha hd
end
end Pr
end Go.Proofs.YtpgcidpghmoibaaGreatDoor

namespace Go.Proofs.YtpgcidpghmoibaaGreatDoor
namespace Pr
open Go.RowKit
open G (PNode)
open Cs
def OpsAt (w:World) (vl:Value) (n:Nat):Prop:=
  ∃ la cap,vl=.slice la n cap∧∀ i,i < n→∃ a kd on s t j c d,la=some a∧a.block < w.heap.size∧(∀ o u,(#[.int .i64 kd,.int .i64 on,.string s,.string t,.int .i64 j,.int .i32 c,.int .i32 d]:Array Value)[o]?=some u→w.cell? (a.add (i * 7 + o))=some u) ∧
    s.size≤maxLen∧t.size≤maxLen∧(-9223372036854775808≤on∧on≤9223372036854775807)∧(-9223372036854775808≤j∧j≤9223372036854775807)∧(-2147483648≤c∧c≤2147483647)∧(-2147483648≤d∧d≤2147483647)
theorem add_blk (a:Addr) (k:Nat):(a.add k).block=a.block:=by
  unfold Addr.add
  split <;> rfl
theorem add_pos (p:Addr) (o:Nat) (ho:o ≠ 0):p.add o={ block:=p.block,off:=p.off + o }:=by
  unfold Addr.add
  rw [if_neg ho]
theorem add_off (a:Addr) (k o:Nat) (ho:o ≠ 0):a.add (k + o)={ block:=(a.add k).block,off:=(a.add k).off + o }:=by
  rw [← Go.Deep.add_add,add_pos _ _ ho]
def col0 (x b k:Nat):Nat:=if k=x then 2 else if k=b then 3 else 0
abbrev bookO:Obj:=.cells #[.int .i64 0,.slice none 0 0,.slice none 0 0,.slice none 0 0,.slice none 0 0,.slice none 0 0,.slice none 0 0] 44
theorem ws_new (w:World):Ws ((w.alloc bookO).alloc (.cells #[pv w.heap.size,.slice none 0 0,.slice none 0 0] 100)) (w.heap.size + 1) w.heap.size 0 (col0 w.heap.size (w.heap.size + 1)) (.slice none 0 0) (.slice none 0 0) [] []:=by
  have hz:(w.alloc bookO).heap.size=w.heap.size + 1:=by simp
  have hb:Below (w.alloc bookO).heap.size (w.alloc bookO) ((w.alloc bookO).alloc (.cells #[pv w.heap.size,.slice none 0 0,.slice none 0 0] 100)):=(Below.refl _ _).alloc (Nat.le_refl _) _
  have hn:=heap_alloc_new (w.alloc bookO) (.cells #[pv w.heap.size,.slice none 0 0,.slice none 0 0] 100)
  rw [hz] at hn
  have hx:((w.alloc bookO).alloc (.cells #[pv w.heap.size,.slice none 0 0,.slice none 0 0] 100)).heap[w.heap.size]?=some bookO:=(hb.block w.heap.size (by omega)).trans (heap_alloc_new w bookO)
  have cx:∀ k,col0 w.heap.size (w.heap.size + 1) k ≠ 0→k=w.heap.size ∨ k=w.heap.size + 1:=fun k e=>by
    unfold col0 at e
    by_cases e1:k=w.heap.size
    · exact .inl e1
    · by_cases e2:k=w.heap.size + 1
      · exact .inr e2
      · rw [if_neg e1,if_neg e2] at e;exact absurd rfl e
  refine ⟨hn,(book_new w _ (by unfold col0;rw [if_pos rfl])).below hb,?_,World.ownsRow_nil _ _ _ _,World.ownsRow_nil _ _ _ _,fun k e=>by simp [Value.ownBlock] at e,fun k e=>by simp [Value.ownBlock] at e,fun p hp=>by simp at hp,fun i p hp=>by simp at hp,fun k e=>?_,fun k e=>?_⟩
  · unfold col0;rw [if_neg (by omega),if_pos rfl]
  · rcases cx k e with rfl | rfl
    · exact lt_of_block hx
    · exact lt_of_block hn
  · rcases cx k (by omega) with rfl | rfl
    · exact ⟨_,⟨_,hx⟩,by decide⟩
    · exact ⟨_,⟨_,hn⟩,by decide⟩
set_option maxRecDepth 100000 in
set_option maxHeartbeats 8000000 in
theorem lawall_any (w:World) (vl:Value) (n:Nat) (hV:OpsAt w vl n) (hn:n≤1048576) (hT:Tabs w) :
    Calls Tryz.prog 12 #[vl] w fun e w'=>e=.returned (.bool true)∧Below w.heap.size w w':=by
  obtain ⟨la,cap,hvl,hops⟩:=hV
  subst hvl
  have hb2:Below w.heap.size w ((w.alloc bookO).alloc (.cells #[pv w.heap.size,.slice none 0 0,.slice none 0 0] 100)):=below_two w _ _
  have HW:Hid _:=ws_new w
  have HB2:Hid _:=hb2
  have hz2:w.heap.size + 2=((w.alloc bookO).alloc (.cells #[pv w.heap.size,.slice none 0 0,.slice none 0 0] 100)).heap.size:=by simp
  have HL:Hid (∀ k,k < w.heap.size→col0 w.heap.size (w.heap.size + 1) k < 2):=fun k hk=>by unfold col0;rw [if_neg (by omega),if_neg (by omega)];omega
  have HOps:Hid _:=hops
  clear hops hb2
  go_enter Tryz.func12,Tryz.ntmps12
  go_wp2_with fail
  generalize ((w.alloc bookO).alloc (.cells #[pv w.heap.size,.slice none 0 0,.slice none 0 0] 100))=w2 at *
  refine (sure_any w2 (hT.below HB2.out)).mono ?_
  rintro e w3 ⟨rfl,hb3⟩
  have hW3:=Ws.below HW.out hb3
  have hB3:Below w.heap.size w w3:=HB2.out.trans (hb3.mono (by omega))
  generalize hcl:col0 w.heap.size (w.heap.size + 1)=cl at *
  generalize hxx:w.heap.size=x at *
  clear hcl hb3 HW HB2 hz2
  have hS:=wstep_any w3 (x + 1) x 0 cl _ _ [] [] ⟨hW3,hT.below (by rw [hxx];exact hB3),by omega,by simp,by simp⟩ 2 0 ⟨#[91,97,45,122,93,43,59]⟩ ByteArray.empty (by decide) (by decide) 0 0 0 (by omega) (by omega) (by omega) (by omega)
  go_wp2_with fail
  refine hS.mono ?_
  rintro e w4 ⟨rfl,c4,col4,vr4,vc4,Ps4,Cs4,hW4,hF4,hc4,hp4,hs4⟩
  have hB4:Below x w w4:=hB3.trans (hF4.below (by have:=hB3.size;omega) HL.out)
  have hL4:∀ k,k < x→col4 k < 2:=fun k hk=>hF4.low k (by have:=hB3.size;omega) (HL.out k hk)
  clear hS hF4 hW3
  have hS:=wstep_any w4 (x + 1) x c4 col4 vr4 vc4 Ps4 Cs4 ⟨hW4,hT.below (by rw [hxx];exact hB4),by omega,by simp at hp4;omega,by simp at hs4;omega⟩ 7 0 ByteArray.empty ByteArray.empty (by decide) (by decide) 0 0 0 (by omega) (by omega) (by omega) (by omega)
  go_wp2_with fail
  refine hS.mono ?_
  rintro e w5 ⟨rfl,c5,col5,vr5,vc5,Ps5,Cs5,hW5,hF5,hc5,hp5,hs5⟩
  have hB5:Below x w w5:=hB4.trans (hF5.below (by have:=hB4.size;omega) hL4)
  have hL5:∀ k,k < x→col5 k < 2:=fun k hk=>hF5.low k (by have:=hB4.size;omega) (hL4 k hk)
  simp only [List.length_nil] at hp4 hs4
  have hP5:c5≤8∧Ps5.length≤2∧Cs5.length≤2:=by omega
  clear hS hF5 hW4 hB4 hL4 HL hB3 hc4 hp4 hs4 hc5 hp5 hs5
  go_wp2_with fail
  go_loopw [7] (fun vi wr=>∃ (k c:Nat) (col:Nat→Nat) (vr vc:Value) (Ps Cs:List (Nat × Nat)),vi=.int .i64 k∧k≤n∧Ws wr (x + 1) x c col vr vc Ps Cs∧c≤8 + 4 * k∧Ps.length≤2 + k∧Cs.length≤2 + k∧Below x w wr∧∀ j,j < x→col j < 2) (fun vi _=>n - (intOf vi).toNat)
  case atStart=>exact ⟨0,c5,col5,vr5,vc5,Ps5,Cs5,rfl,Nat.zero_le _,hW5,by omega,by omega,by omega,hB5,hL5⟩
  case round =>
    obtain ⟨k,c,col,vr,vc,Ps,Cs,rfl,hk,hW,hc,hp,hs,hB,hL⟩:=hrel
    by_cases hlt:k < n
    · obtain ⟨a,kd,on,s,t,j,cc,dd,rfl,hal,hcell,hs1,ht1,ho1,hj1,hc1,hd1⟩:=HOps.out k hlt
      have hx:∀ o u,(#[.int .i64 kd,.int .i64 on,.string s,.string t,.int .i64 j,.int .i32 cc,.int .i32 dd]:Array Value)[o]?=some u→wr.cell? (a.add (k * 7 + o))=some u:=fun o u e=>(hB.cell (p:=a.add (k * 7 + o)) (by rw [add_blk];omega)).trans (hcell o u e)
      have x0:=hx 0 (.int .i64 kd) rfl
      have x1:=hx 1 (.int .i64 on) rfl
      have x2:=hx 2 (.string s) rfl
      have x3:=hx 3 (.string t) rfl
      have x4:=hx 4 (.int .i64 j) rfl
      have x5:=hx 5 (.int .i32 cc) rfl
      have x6:=hx 6 (.int .i32 dd) rfl
      rw [add_off a (k * 7) _ (by omega)] at x1 x2 x3 x4 x5 x6
      rw [Nat.add_zero] at x0
      have hS:=wstep_any wr (x + 1) x c col vr vc Ps Cs ⟨hW,hT.below (by rw [hxx];exact hB),by omega,by omega,by omega⟩ kd on s t hs1 ht1 j cc dd ho1 hj1 hc1 hd1
      have hk0:(0:Int)≤(k:Int):=by omega
      have hki:(k:Int) < (n:Int):=by omega
      have HB:Hid _:=And.intro hB hL
      clear hx hcell hW5 hB5 hL5 hW hB hL
      go_wp2_with fail
      refine hS.mono ?_
      rintro e w7 ⟨rfl,c7,col7,vr7,vc7,Ps7,Cs7,hW7,hF7,hc7,hp7,hs7⟩
      have hB7:Below x w w7:=HB.out.1.trans (hF7.below (by have:=HB.out.1.size;omega) HB.out.2)
      have hL7:∀ j,j < x→col7 j < 2:=fun j hj=>hF7.low j (by have:=HB.out.1.size;omega) (HB.out.2 j hj)
      have b0:=Rf.cell_blk hW7.blk 0 (pv x) rfl
      have hLk:=looks_any w7 x _ c7 hW7.book (by omega)
      have HW7:Hid _:=And.intro hW7 (And.intro hB7 hL7)
      clear hS hF7 hW7 hB7 hL7 HB x0 x1 x2 x3 x4 x5 x6
      go_wp2_with fail
      refine hLk.mono ?_
      rintro e w8 ⟨rfl,hb8⟩
      have HB8:Hid _:=hb8
      clear hLk hb8 b0
      go_wp2
      go_roundw
      case rel=>exact ⟨k + 1,c7,col7,vr7,vc7,Ps7,Cs7,by go_num,by omega,Ws.below HW7.out.1 HB8.out,by omega,by omega,by omega,HW7.out.2.1.trans (HB8.out.mono (by have:=HW7.out.2.1.size;omega)),HW7.out.2.2⟩
      case measure=>simp [intOf];omega
    · obtain rfl:k=n:=by omega
      go_wp2
      go_ret
      exact ⟨rfl,by rw [hxx];exact hB⟩
end Pr
end Go.Proofs.YtpgcidpghmoibaaGreatDoor

namespace Go.Proofs.YtpgcidpghmoibaaGreatDoor
open Go Go.ChangeShapes Go.WideShapes Go.ChangeAt Go.RowKit
theorem bulk_pos {H:Type} (d:DataW H):1≤Rows.uptoBulk d:=by
  cases d with
  | lit l=>cases l <;> simp [Rows.uptoBulk]
  | nil=>simp [Rows.uptoBulk]
  | ptr d=>simp [Rows.uptoBulk]
  | slice elems spare=>simp [Rows.uptoBulk]
  | agg parts=>simp [Rows.uptoBulk]
  | iface t d=>simp [Rows.uptoBulk]
  | map entries=>simp [Rows.uptoBulk]
  | held h=>simp [Rows.uptoBulk]
theorem bulk_len {H:Type} (l:List (DataW H)):l.length≤Rows.uptoBulkAll l:=by
  induction l with
  | nil=>simp [Rows.uptoBulkAll]
  | cons x r ih=>have:=bulk_pos x;simp only [Rows.uptoBulkAll,List.length_cons];omega
theorem place_lt {w:World} {p:Addr} {u:Value} (h:w.cell? p=some u):p.block < w.heap.size:=by
  unfold World.cell? at h
  cases hb:w.heap[p.block]? with
  | none=>rw [hb] at h;simp at h
  | some o=>exact lt_of_block hb
theorem i64_bounds {x:Int} (h:(Lit.int .i64 x).wf=true):-9223372036854775808≤x∧x≤9223372036854775807:=by
  simp [Lit.wf,IntKind.min,IntKind.max,IntKind.signed,IntKind.bits] at h
  omega
theorem i32_bounds {x:Int} (h:(Lit.int .i32 x).wf=true):-2147483648≤x∧x≤2147483647:=by
  simp [Lit.wf,IntKind.min,IntKind.max,IntKind.signed,IntKind.bits] at h
  omega
set_option maxRecDepth 100000 in
theorem ops_read {H:Type} {enc:TypeId × Value→H} {W:World} {v:Value} {d:DataW H} {ps:List MemPlace} (hv:∃ a len cap,v=.slice a len cap) (h:DataW.Trod enc Tryz.prog W 0 (fun _=>true) true 95 v d ps):∃ n,Pr.OpsAt W v n∧n + 1≤Rows.uptoBulk d:=by
  obtain ⟨a0,n,cap0,rfl⟩:=hv
  obtain ⟨fuel,hf⟩:=h
  have hc7:Tryz.prog.cellsOf 103=7:=by kernel_rfl
  have hci:Tryz.prog.cellsOf 3=1:=by kernel_rfl
  have hcs:Tryz.prog.cellsOf 9=1:=by kernel_rfl
  have hcr:Tryz.prog.cellsOf 21=1:=by kernel_rfl
  rcases Go.Deep.open_slice Tryz.underlying95 hf with ⟨hc,hx⟩ | ⟨a,len,cap,m,k,D,P,hc,_,hl,hm,hmm,hx,hall⟩
  · simp only [Value.cells,List.cons.injEq,and_true,Value.slice.injEq] at hc
    obtain ⟨rfl,rfl,rfl⟩:=hc
    exact ⟨0,⟨none,0,rfl,fun i hi=>by omega⟩,bulk_pos d⟩
  · simp only [Value.cells,List.cons.injEq,and_true,Value.slice.injEq] at hc
    obtain ⟨rfl,rfl,rfl⟩:=hc
    simp only [if_true] at hmm
    subst hmm
    simp only [Prod.mk.injEq] at hx
    refine ⟨n,⟨some a,_,rfl,fun i hi=>?_⟩,?_⟩
    · obtain ⟨cs',h1,h2⟩:=hall i (by omega)
      rw [hc7] at h1
      obtain ⟨_,hlen,hcell⟩:=World.cells?_some h1
      obtain ⟨xs,n',_,_,_,hxl,hfl⟩:=DataW.trod_struct Tryz.underlying103 h2
      match cs',hlen with
      | [c0,c1,c2,c3,c4,c5,c6],_ =>
        have g0:=hfl 0 _ rfl
        have g1:=hfl 1 _ rfl
        have g2:=hfl 2 _ rfl
        have g3:=hfl 3 _ rfl
        have g4:=hfl 4 _ rfl
        have g5:=hfl 5 _ rfl
        have g6:=hfl 6 _ rfl
        have at7:∀ j,j < 7→∃ y,xs[j]?=some y:=fun j hj=>⟨xs[j]'(by rw [hxl];exact hj),List.getElem?_eq_getElem _⟩
        obtain ⟨y0,e0⟩:=at7 0 (by omega)
        obtain ⟨y1,e1⟩:=at7 1 (by omega)
        obtain ⟨y2,e2⟩:=at7 2 (by omega)
        obtain ⟨y3,e3⟩:=at7 3 (by omega)
        obtain ⟨y4,e4⟩:=at7 4 (by omega)
        obtain ⟨y5,e5⟩:=at7 5 (by omega)
        obtain ⟨y6,e6⟩:=at7 6 (by omega)
        rw [e0] at g0
        rw [e1] at g1
        rw [e2] at g2
        rw [e3] at g3
        rw [e4] at g4
        rw [e5] at g5
        rw [e6] at g6
        obtain ⟨x0,q0,_,w0⟩:=DataW.trod_int Tryz.underlying3 g0
        obtain ⟨x1,q1,_,w1⟩:=DataW.trod_int Tryz.underlying3 g1
        obtain ⟨x2,q2,_,w2⟩:=DataW.trod_string Tryz.underlying9 g2
        obtain ⟨x3,q3,_,w3⟩:=DataW.trod_string Tryz.underlying9 g3
        obtain ⟨x4,q4,_,w4⟩:=DataW.trod_int Tryz.underlying3 g4
        obtain ⟨x5,q5,_,w5⟩:=DataW.trod_int Tryz.underlying21 g5
        obtain ⟨x6,q6,_,w6⟩:=DataW.trod_int Tryz.underlying21 g6
        simp [hci,hcs,hcr] at q0 q1 q2 q3 q4 q5 q6
        subst q0 q1 q2 q3 q4 q5 q6
        have hx0:=hcell 0 (by omega)
        have hb:a.block < W.heap.size:=by
          have:=place_lt hx0
          rwa [Go.Deep.add_add,Pr.add_blk] at this
        refine ⟨a,x0,x1,x2,x3,x4,x5,x6,rfl,hb,fun o u ho=>?_,w2,w3,i64_bounds w1,i64_bounds w4,i32_bounds w5,i32_bounds w6⟩
        have ho7:o < 7:=by
          rcases Nat.lt_or_ge o 7 with e | e
          · exact e
          · rw [Array.getElem?_eq_none (by simpa using e)] at ho;cases ho
        have:=hcell o ho7
        rw [Go.Deep.add_add] at this
        rw [this]
        simpa using ho
    · rw [hx.1]
      have h1:=bulk_len ((List.range n).map D)
      simp only [Rows.uptoBulk,List.length_map,List.length_range] at h1 ⊢
      omega
end Go.Proofs.YtpgcidpghmoibaaGreatDoor
