/-
  THE PROGRAM's Match
  RULES OF BOTH SIDES, ready to be asked for matches
  THE LIBRARY's BinarySearch at any ascending numbers
  THE PROGRAM's cursors
  THE PROGRAM's Over
-/
import Derived.Test.YtpgcidpghmoibaaGreatDoorK44
import Derived.Test.YtpgcidpghmoibaaGreatDoorK41
import Derived.Test.YtpgcidpghmoibaaGreatDoorK25
import Derived.Deep.Cut
namespace Go.Proofs.YtpgcidpghmoibaaGreatDoor
namespace Pr
open Go.RowKit
open Rf (Kept Lies MatchV)
open G (PNode)
set_option maxRecDepth 100000 in
set_option maxHeartbeats 1000000 in
theorem pmatch_long (w:World) (b:Nat) (s:ByteArray) (a:Int) (hs:1000 < s.size) (hm:s.size≤maxLen) :
    Calls Tryz.prog 37 #[pv b,.string s,.int .i64 a] w fun e w'=>e=.returned (.tuple #[.agg #[.int .i64 0,.int .i64 0,.int .i64 0],.int .i64 1])∧Below w.heap.size w w':=by
  go_enter Tryz.func37,Tryz.ntmps37
  go_wp2_with (go_at_call 24;refine (units_long s _ hs hm).mono ?_;rintro e w2 ⟨rfl,rfl⟩)
  exact bodyPost_ret (v:=.tuple #[.agg #[.int .i64 0,.int .i64 0,.int .i64 0],.int .i64 1]) (by simp [results,Tryz.results37,go_sem]) rfl ⟨rfl,(Below.refl _ w).alloc (Nat.le_refl _) _⟩
set_option maxRecDepth 100000 in
set_option maxHeartbeats 2000000 in
theorem pmatch_short (w:World) (b m:Nat) (I:Nat→Prop) (v:Value) (V:List Value) (T:List PNode) (Q:List Nat) (P:List Pl) (f:PB) (hP:PIn w b m I v V T Q P f) (s:ByteArray) (a:Int) (hs:s.size≤1000) :
    Calls Tryz.prog 37 #[pv b,.string s,.int .i64 a] w fun e w'=>(∃ g:G.Seg,MatchV T Q s a g∧e=.returned (.tuple #[.agg #[.int .i64 (g.f:Int),.int .i64 (g.t:Int),.int .i64 g.r],.int .i64 0]))∧Below w.heap.size w w':=by
  obtain ⟨j0,hj,hy⟩:=Option.map_eq_some_iff.1 infoInt
  simp only [Prod.mk.injEq] at hy
  obtain ⟨hy0,hy1,hy2⟩:=hy
  have hul:=U.units_length s
  have hbx:=heap_alloc_new w (.cells #[.int .i64 0,.int .i64 0,.int .i64 0] 65)
  have hb0:Below w.heap.size w (w.alloc (.cells #[.int .i64 0,.int .i64 0,.int .i64 0] 65)):=(Below.refl _ w).alloc (Nat.le_refl _) _
  have HBX:Hid _:=And.intro hb0 hbx
  clear hbx hb0
  go_enter Tryz.func37,Tryz.ntmps37
  go_wp2_with (first
    | (go_at_call 70
       refine hUa.mono ?_
       rintro e w4 ⟨⟨k,hUn,rfl⟩,rfl⟩)
    | (at_builtin
       refine wpList_append_own_at _ rfl (.tmp 25) (.tmp 28) 33 rfl (w.heap.size + 1 + 1) 3 j0 (.int .i64 0) 1 8 Tryz.underlying33 hj hy0 hy1 hy2 rfl (by decide) _ _ _ rfl (ho2.alloc _) ⟨w2.heap.size,0,none⟩ 1 1 [.int .i64 (s.size:Int)] rfl rfl (cell_one_new _ _ _) (fun x hx=>by simp at hx;subst hx;rfl) (by unfold maxLen;omega) (by omega) (by have:=hb2.size;simp at this ⊢;omega) ?_
       intro v3 w3 hn3 hg3 _ hat3
       have o1:=(ho1.alloc (.cells #[.int .i64 (s.size:Int)] 3)).kept hg3 (apart_of_types (ho2.alloc (.cells #[.int .i64 (s.size:Int)] 3)) (ho1.alloc (.cells #[.int .i64 (s.size:Int)] 3)) (by decide))
       have hz2:=hb2.size
       have hb3:Below (w.heap.size + 1) (w.alloc (.cells #[.int .i64 0,.int .i64 0,.int .i64 0] 65)) w3:=Below.grown (((by simpa using hb2:Below (w.heap.size + 1) _ w2)).alloc (by simp at hz2;omega) _) hg3 (by simp at hz2 ⊢;omega) (fun k hk=>by have:=(ho2.lt k hk).1;omega)
       obtain ⟨g3,c3,hf3,_,_⟩:=hn3.form (by omega)
       subst hf3
       have hUa:=uat_any w3 s hs _ g3 c3 hn3 a
       clear ho1 ho2 hg3 hat3)
    | (go_at_call 24
       refine (units_short s _ hs).mono ?_
       rintro e w2 ⟨v1,v2,rfl,ho1,ho2,hb2⟩
       simp only [show (w.alloc (.cells #[.int .i64 0,.int .i64 0,.int .i64 0] 65)).heap.size=w.heap.size + 1 by simp] at ho1 ho2
       obtain ⟨q1,c1,he1⟩:=Rf.own_len ho1
       obtain ⟨q2,c2,he2⟩:=Rf.own_len ho2
       subst he1 he2))
  have hb4:Below w.heap.size w w4:=HBX.out.1.trans (hb3.mono (Nat.le_succ _))
  have hbx4:=(hb3.block w.heap.size (Nat.lt_succ_self _)).trans HBX.out.2
  have hP4:=hP.below hb4
  have p1:=hP4.blk.mach
  have hbl4:=hP4.blk.lt
  have hsd:((G.us s).drop k).length=(U.units s).length - k:=by rw [List.length_drop,G.us_len]
  have hkl:=hUn.1
  rw [G.us_len] at hkl
  have hRun:∀ w':World,w'.heap=w4.heap→Below w4.heap.size w4 w'→Calls Tryz.prog 61 #[pv m] w' fun e w5=>∃ br bm,e=.returned (pv br)∧RunAt w5 I br m bm v P V f∧Memo w5 bm 0 P∧Below w4.heap.size w4 w5∧w4.heap.size≤bm:=fun w' hw hbw=>by
    refine (mrun_any w' I m v P V f (hP4.ma.same (fun k _=>by rw [hw])) (fun k e=>by rw [hw];exact hP4.lt k e)).mono ?_
    rintro e w5 ⟨br,bm,h1,h2,h3,h4,h5⟩
    have hsz:w'.heap.size=w4.heap.size:=by rw [hw]
    exact ⟨br,bm,h1,h2,h3,hbw.trans (by rw [hsz] at h4;exact h4),by omega⟩
  have HU:Hid _:=hUn
  clear hUn HBX hUa hP
  by_cases hkn:k < (U.units s).length
  · obtain ⟨g1,cap1,hf,_,_⟩:=o1.form (by omega)
    simp only [Value.slice.injEq] at hf
    obtain ⟨rfl,_,rfl⟩:=hf
    have hcl:=Rf.own_cap o1
    have hck:¬ c1=k:=by omega
    have hg1:=(o1.lt g1 rfl).2
    have hLo:∀ (w5:World) (br bm:Nat),Below w4.heap.size w4 w5→w4.heap.size≤bm→RunAt w5 I br m bm v P V f→Memo w5 bm 0 P→Calls Tryz.prog 62 #[pv br,.slice (some ⟨g1,k,none⟩) ((U.units s).length - k) (c1 - k)] w5 fun e w'=>(∃ (n:Nat) (r:Int),e=.returned (.tuple #[.int .i64 (n:Int),.int .i64 r])∧G.Long T Q ((G.us s).drop k) n r)∧Below w4.heap.size w4 w':=fun w5 br bm hb5 hbm hru hme=>by
      have h:=plong_any w5 I br m bm 0 v T Q P V f hru hme hP4.few hP4.sem ((G.us s).drop k) (by rw [hsd];omega) (by omega) (fun c hc=>us_bound s c (List.mem_of_mem_drop hc)) (some ⟨g1,k,none⟩) (c1 - k) (puat_drop (Rf.own_sameB o1 (fun i e=>hb5.block i (o1.lt i e).2)) k _ (Nat.lt_of_lt_of_le hg1 hb5.size)) (fun g off e=>by simp only [Option.some.injEq,Addr.mk.injEq] at e;have:=e.1;omega)
      rw [hsd] at h
      refine h.mono ?_
      rintro e w' ⟨h1,_,hk⟩
      exact ⟨h1,hb5.trans ⟨hk.os,hk.tape,hk.output,by have:=hk.size;have:=hb5.size;omega,fun i hi=>hk.block i (Nat.lt_of_lt_of_le hi hb5.size) (show i ≠ bm by omega)⟩⟩
    go_region_with (first
      | (go_at_call 62;refine (hLo _ br bm hb5 hbm hru hme).mono ?_;rintro e w6 ⟨⟨n,r,rfl,hLn⟩,hb6⟩)
      | (go_at_call 61;refine (hRun w4.drew rfl (Below.refl _ w4).drew).mono ?_;rintro e w5 ⟨br,bm,rfl,hru,hme,hb5,hbm⟩))
    all_goals
      have hnl:=hLn.le
      rw [hsd] at hnl
      have hn36:=Rf.own_sameB hn3 (fun i e=>hb6.block i (hn3.lt i e).2)
      have e0:w6.cell? ⟨g3,k,none⟩=some (.int .i64 (G.edge s k:Int)):=own_cell' hn36 k (edgesV_get s k (by omega))
      have e1:w6.cell? ⟨g3,k + n,none⟩=some (.int .i64 (G.edge s (k + n):Int)):=own_cell' hn36 (k + n) (edgesV_get s (k + n) (by omega))
      have bx6:=(hb6.block _ (lt_of_block hbx4)).trans hbx4
      have z0:=Rf.cell_blk bx6 0 (.int .i64 0) rfl
      have z1:=Rf.cell_blk bx6 1 (.int .i64 0) rfl
      have z2:=Rf.cell_blk bx6 2 (.int .i64 0) rfl
      have zf:=fun o=>Rf.free_blk bx6 o
      have hi3:(k:Int) < ((U.units s).length:Int) + 1:=by omega
      have hi4:(k:Int) + (n:Int) < ((U.units s).length:Int) + 1:=by omega
      have hi5:(0:Int)≤(k:Int):=by omega
      have hi6:(0:Int)≤(k:Int) + (n:Int):=by omega
      have htn:((k:Int) + (n:Int)).toNat=k + n:=by omega
      have hwr:IntKind.i64.wrap ((k:Int) + (n:Int))=(k:Int) + (n:Int):=by rw [IntKind.wrap_i64];omega
      have hb6w:=hb4.trans (hb6.mono hb4.size)
      go_wp2
      go_region
      all_goals
        go_wp2
        refine bodyPost_ret (v:=.tuple #[.agg #[.int .i64 (G.edge s k:Int),.int .i64 (G.edge s (k + n):Int),.int .i64 r],.int .i64 0]) (by simp [results,Tryz.results37,go_sem,z0,z1,z2]) rfl ⟨⟨⟨_,_,r⟩,⟨k,n,r,HU.out,hLn,rfl⟩,rfl⟩,?_⟩
        exact ((hb6w.drew.setCell (by simp) _).setCell (by simp) _).setCell (by simp) _
  · have hdr:(G.us s).drop k=[]:=List.drop_of_length_le (by rw [G.us_len];omega)
    have hzk:(U.units s).length - k=0:=by omega
    have hLo:∀ (pu:Option Addr) (cu:Nat) (w5:World) (br bm:Nat),(∀ g off,pu=some ⟨g,off,none⟩→g < w4.heap.size)→Below w4.heap.size w4 w5→w4.heap.size≤bm→RunAt w5 I br m bm v P V f→Memo w5 bm 0 P→Calls Tryz.prog 62 #[pv br,.slice pu 0 cu] w5 fun e w'=>(∃ (n:Nat) (r:Int),e=.returned (.tuple #[.int .i64 (n:Int),.int .i64 r])∧G.Long T Q [] n r)∧Below w4.heap.size w4 w':=fun pu cu w5 br bm hpu hb5 hbm hru hme=>by
      have h:=plong_any w5 I br m bm 0 v T Q P V f hru hme hP4.few hP4.sem [] (by simp) (by omega) (fun c hc=>by simp at hc) pu cu ⟨fun i c hc=>by simp at hc⟩ (fun g off e=>by have:=hpu g off e;omega)
      refine h.mono ?_
      rintro e w' ⟨h1,_,hk⟩
      exact ⟨h1,hb5.trans ⟨hk.os,hk.tape,hk.output,by have:=hk.size;have:=hb5.size;omega,fun i hi=>hk.block i (Nat.lt_of_lt_of_le hi hb5.size) (show i ≠ bm by omega)⟩⟩
    rcases o1.2 with ⟨hv0,hn0⟩ | ⟨g1,cap1,cur,hv0,_,hg1,_⟩
    · simp only [Value.slice.injEq] at hv0
      obtain ⟨rfl,_,rfl⟩:=hv0
      have hk0:k=0:=by omega
      go_region_with (first
        | (go_at_call 62;refine (hLo none 0 _ br bm (fun _ _ e=>by cases e) hb5 hbm hru hme).mono ?_;rintro e w6 ⟨⟨n,r,rfl,hLn⟩,hb6⟩)
        | (go_at_call 61;refine (hRun w4.drew rfl (Below.refl _ w4).drew).mono ?_;rintro e w5 ⟨br,bm,rfl,hru,hme,hb5,hbm⟩))
      all_goals
        have hnl:=hLn.le
        rw [List.length_nil] at hnl
        obtain rfl:n=0:=by omega
        have hn36:=Rf.own_sameB hn3 (fun i e=>hb6.block i (hn3.lt i e).2)
        have e0:w6.cell? ⟨g3,0,none⟩=some (.int .i64 (G.edge s 0:Int)):=own_cell' hn36 0 (edgesV_get s 0 (by omega))
        have bx6:=(hb6.block _ (lt_of_block hbx4)).trans hbx4
        have z0:=Rf.cell_blk bx6 0 (.int .i64 0) rfl
        have z1:=Rf.cell_blk bx6 1 (.int .i64 0) rfl
        have z2:=Rf.cell_blk bx6 2 (.int .i64 0) rfl
        have zf:=fun o=>Rf.free_blk bx6 o
        have hb6w:=hb4.trans (hb6.mono hb4.size)
        have HK:Hid (k=0):=hk0
        clear hk0
        have hwr:IntKind.i64.wrap 0=0:=by rw [IntKind.wrap_i64];rfl
        go_wp2
        go_region
        all_goals
          go_wp2
          have hU0:=HU.out
          rw [HK.out] at hU0 hdr
          refine bodyPost_ret (v:=.tuple #[.agg #[.int .i64 (G.edge s 0:Int),.int .i64 (G.edge s 0:Int),.int .i64 r],.int .i64 0]) (by simp [results,Tryz.results37,go_sem,z0,z1,z2]) rfl ⟨⟨⟨_,_,r⟩,⟨0,0,r,hU0,by rw [hdr];exact hLn,rfl⟩,rfl⟩,?_⟩
          exact ((hb6w.drew.setCell (by simp) _).setCell (by simp) _).setCell (by simp) _
    · simp only [Value.slice.injEq] at hv0
      obtain ⟨rfl,_,rfl⟩:=hv0
      have hg1l:=lt_of_block hg1
      have hcl:=Rf.own_cap o1
      by_cases hcN:c1=k
      all_goals
        go_region_with (first
          | (go_at_call 62;refine (hLo _ _ _ br bm (fun g off e=>by simp only [Option.some.injEq,Addr.mk.injEq] at e;have:=e.1;omega) hb5 hbm hru hme).mono ?_;rintro e w6 ⟨⟨n,r,rfl,hLn⟩,hb6⟩)
          | (go_at_call 61;refine (hRun w4.drew rfl (Below.refl _ w4).drew).mono ?_;rintro e w5 ⟨br,bm,rfl,hru,hme,hb5,hbm⟩))
      all_goals
        have hnl:=hLn.le
        rw [List.length_nil] at hnl
        obtain rfl:n=0:=by omega
        have hn36:=Rf.own_sameB hn3 (fun i e=>hb6.block i (hn3.lt i e).2)
        have e0:w6.cell? ⟨g3,k,none⟩=some (.int .i64 (G.edge s k:Int)):=own_cell' hn36 k (edgesV_get s k (by omega))
        have bx6:=(hb6.block _ (lt_of_block hbx4)).trans hbx4
        have z0:=Rf.cell_blk bx6 0 (.int .i64 0) rfl
        have z1:=Rf.cell_blk bx6 1 (.int .i64 0) rfl
        have z2:=Rf.cell_blk bx6 2 (.int .i64 0) rfl
        have zf:=fun o=>Rf.free_blk bx6 o
        have hi3:(k:Int) < ((U.units s).length:Int) + 1:=by omega
        have hi5:(0:Int)≤(k:Int):=by omega
        have htn:((k:Int)).toNat=k:=by omega
        have hwr:IntKind.i64.wrap (k:Int)=(k:Int):=by rw [IntKind.wrap_i64];omega
        have hb6w:=hb4.trans (hb6.mono hb4.size)
        go_wp2
        go_region
        all_goals
          go_wp2
          refine bodyPost_ret (v:=.tuple #[.agg #[.int .i64 (G.edge s k:Int),.int .i64 (G.edge s k:Int),.int .i64 r],.int .i64 0]) (by simp [results,Tryz.results37,go_sem,z0,z1,z2]) rfl ⟨⟨⟨_,_,r⟩,⟨k,0,r,HU.out,by rw [hdr];exact hLn,rfl⟩,rfl⟩,?_⟩
          exact ((hb6w.drew.setCell (by simp) _).setCell (by simp) _).setCell (by simp) _
end Pr
end Go.Proofs.YtpgcidpghmoibaaGreatDoor

namespace Go.Proofs.YtpgcidpghmoibaaGreatDoor
namespace Rf
open G (PNode)
theorem AllR.len {T:List PNode} (hT:G.WF T) {qs:List Nat} {L L':List PState} {B F B' F':List Nat} (h:AllR T qs L B F L' B' F'):(∀ q ∈ qs,q < T.length)→1≤L.length→L'.length≤L.length + 4 * G.pls T qs:=by
  induction h with
  | nil=>intro _ _;simp [G.pls]
  | @cons q qs L B F r L1 L' B' F' hm hr ih =>
    intro hq h1
    have f1:=hm.fine hT (hq q (by simp)) (by omega)
    have i1:=ih (fun p hp=>hq p (by simp [hp])) (by have:=f1.1;omega)
    have h2:L1.length + (MT.node q).sl T≤L.length + 4 * G.pl T q:=f1.2.2.1
    have e:G.pls T (q :: qs)=G.pl T q + G.pls T qs:=by simp [G.pls]
    omega
end Rf
namespace Pr
open G (PNode)
theorem Both.rlow {w:World} {b q:Nat} {T:List PNode} {Q:List Nat} (h:Both w b q T Q):∃ L B F I,Rf.RIn w q T Q L B F I∧∀ k,I k→q≤k:=by
  obtain ⟨S,M,L,B,F,hSa,hAll,hlow⟩:=h.rf
  have hA:=hAll.all h.wf (fun x hx=>by have:=h.fe x hx;omega) h.lt
  have hl:=hAll.len h.wf h.lt (by simp)
  have hp:=G.sizeOf_pls h.wf Q h.lt (by have:=h.sz;omega)
  refine ⟨L,B,F,S,⟨Rf.RfAt.of_sa hSa,hA,?_,by have:=h.tl;omega,fun y hy=>by have:=h.fe y hy;omega,by have:=h.few;omega⟩,hlow⟩
  have:=h.sz
  simp at hl
  omega
end Pr
end Go.Proofs.YtpgcidpghmoibaaGreatDoor

namespace Go.Proofs.YtpgcidpghmoibaaGreatDoor
namespace Pr
open Go.RowKit
set_option maxRecDepth 100000 in
set_option maxHeartbeats 1000000 in
theorem bsg_any (w:World) (E:Nat→Int) (N g c:Nat) (hN:N≤100000) (cell:∀ k,k≤N→w.cell? ⟨g,k,none⟩=some (.int .i64 (E k))) (mono:∀ i k,i≤k→k≤N→E i≤E k) (a:Int) :
    Calls Tryz.prog 93 #[.slice (some ⟨g,0,none⟩) (N + 1) c,.int .i64 a] w fun e w'=>(∃ i:Nat,i≤N + 1∧(∀ k,k < i→E k < a)∧(∀ k,i≤k→k≤N→a≤E k)∧e=.returned (.tuple #[.int .i64 (i:Int),.bool (bsB N i (E i) a)]))∧w'=w:=by
  go_enter Tryz.func93,Tryz.ntmps93
  go_wp2
  go_loop [7,8,9] (fun vi vj _=>∃ i j:Nat,vi=.int .i64 i∧vj=.int .i64 j∧i≤j∧j≤N + 1∧(∀ k,k < i→E k < a)∧(∀ k,j≤k→k≤N→a≤E k)) (fun vi vj _=>(intOf vj).toNat - (intOf vi).toNat)
  case atStart=>exact ⟨0,N + 1,rfl,by first | rfl | go_num,Nat.zero_le _,Nat.le_refl _,fun k hk=>by omega,fun k h1 h2=>by omega⟩
  case round =>
    obtain ⟨i,j,rfl,rfl,hij,hjn,hlo,hhi⟩:=hrel
    have HL:Hid _:=And.intro hlo hhi
    clear hlo hhi
    by_cases hlt:i < j
    · have hd0:i≤(i + j) / 2∧(i + j) / 2 < j:=by omega
      have c0:=cell ((i + j) / 2) (by omega)
      have hLe:=less_any (E ((i + j) / 2)) a w
      by_cases hc:E ((i + j) / 2) < a
      · rw [decide_eq_true hc] at hLe
        have HG:Hid (∀ k,k < (i + j) / 2 + 1→E k < a):=fun k hk=>by have:=mono k ((i + j) / 2) (by omega) (by omega);omega
        clear hc mono cell
        go_wp2_with (go_at_call 121;refine hLe.mono ?_;rintro e w1 ⟨rfl,rfl⟩)
        refine ⟨⟨(i + j) / 2 + 1,j,by first | go_num | (congr 1;omega),rfl,by omega,hjn,HG.out,HL.out.2⟩,by simp [intOf];omega⟩
      · rw [decide_eq_false hc] at hLe
        have HG:Hid (∀ k,(i + j) / 2≤k→k≤N→a≤E k):=fun k hk hkN=>by have:=mono ((i + j) / 2) k (by omega) hkN;omega
        clear hc mono cell
        go_wp2_with (go_at_call 121;refine hLe.mono ?_;rintro e w1 ⟨rfl,rfl⟩)
        refine ⟨⟨i,(i + j) / 2,rfl,by first | go_num | (congr 1;omega),by omega,by omega,HL.out.1,HG.out⟩,by simp [intOf];omega⟩
    · have e:i=j:=by omega
      subst e
      by_cases hi:i≤N
      · have c0:=cell i hi
        by_cases hq:E i=a
        · have hqb:(E i == a)=true:=by simpa using hq
          have HQ:Hid (bsB N i (E i) a=true):=bsB_iff.2 ⟨hi,hq⟩
          clear hq mono cell
          go_wp2_with (go_at_call 122;refine (nan_any _ _).mono ?_;rintro e w1 ⟨rfl,rfl⟩)
          go_ret2
          exact ⟨⟨i,hjn,HL.out.1,HL.out.2,ret_ib (x:=true) HQ.out.symm⟩,rfl⟩
        · have hqb:(E i == a)=false:=by simpa using hq
          have HQ:Hid (bsB N i (E i) a=false):=by show bsB _ _ _ _=false;simp [bsB,hq]
          clear hq mono cell
          go_wp2_with (go_at_call 122;refine (nan_any _ _).mono ?_;rintro e w1 ⟨rfl,rfl⟩)
          go_ret2
          exact ⟨⟨i,hjn,HL.out.1,HL.out.2,ret_ib (x:=false) HQ.out.symm⟩,rfl⟩
      · have HQ:Hid (bsB N i (E i) a=false):=by show bsB _ _ _ _=false;simp [bsB,hi]
        clear mono cell
        go_wp2
        go_ret2
        exact ⟨⟨i,hjn,HL.out.1,HL.out.2,ret_ib (x:=false) HQ.out.symm⟩,rfl⟩
end Pr
end Go.Proofs.YtpgcidpghmoibaaGreatDoor

namespace Go.Proofs.YtpgcidpghmoibaaGreatDoor
namespace Pr
open Go.RowKit
open Rf (Kept)
open Cs
set_option maxRecDepth 100000 in
set_option maxHeartbeats 1000000 in
theorem goTo_any (w:World) (c:Nat) (v:Value) (B:List Nat) (a:Nat) (h:Cu 131 w c v B a) (hB:Bn B) (n:Int) :
    Calls Tryz.prog 71 #[pv c,.int .i64 n] w fun e w'=>MovesTo 131 w c v B a (gotoR B n) e w':=by
  have hpos:=hB.pos
  have hfew:=hB.few
  obtain ⟨g,cap,rfl,hgc,cell⟩:=h.cells hpos
  have c0:=Rf.cell_blk h.blk 0 (.slice (some ⟨g,0,none⟩) B.length cap) rfl
  by_cases h0:n < 0
  · have hr:gotoR B n=-1:=by simp [gotoR,h0]
    rw [hr]
    have HR:Hid (Cu 131 w c (.slice (some ⟨g,0,none⟩) B.length cap) B a):=h
    go_enter Tryz.func71,Tryz.ntmps71
    go_wp2
    go_ret
    exact ⟨rfl,by rw [G.stand_no];exact HR.out,Rf.Kept.refl _ _⟩
  · by_cases h1:(B.length:Int)≤n
    · have hr:gotoR B n=-1:=by
        unfold gotoR
        rw [if_neg h0,List.getElem?_eq_none (by omega)]
      rw [hr]
      have HR:Hid (Cu 131 w c (.slice (some ⟨g,0,none⟩) B.length cap) B a):=h
      go_enter Tryz.func71,Tryz.ntmps71
      go_wp2
      go_ret
      exact ⟨rfl,by rw [G.stand_no];exact HR.out,Rf.Kept.refl _ _⟩
    · obtain ⟨m,rfl⟩:∃ m:Nat,n=(m:Int):=⟨n.toNat,by omega⟩
      have hm:m < B.length:=by omega
      have hx:B[m]?=some B[m]:=List.getElem?_eq_getElem hm
      generalize B[m]=x at hx
      have cx:=cell m x hx
      have hr:gotoR B (m:Int)=(x:Int):=by
        unfold gotoR
        rw [if_neg h0]
        simp [hx]
      rw [hr]
      have hfz:=Rf.free_blk h.blk 1
      have hput:=h.put x
      have cu:=Rf.cell_blk hput.1.blk 1 (.int .i64 (x:Int)) rfl
      have HR:Hid _:=hput
      clear hput cell
      have c1:=Rf.cell_blk h.blk 1 (.int .i64 (a:Int)) rfl
      go_enter Tryz.func71,Tryz.ntmps71
      go_wp2
      go_ret
      exact ⟨rfl,by rw [G.stand_nat];exact HR.out.1,HR.out.2⟩
def seekB (B:List Nat) (i:Nat) (a:Int):Bool:=match B[i]? with | some x=>decide ((x:Int)=a) | none=>false
def SeekIs (B:List Nat) (a:Int) (i:Nat):Prop:=i≤B.length∧(∀ (k x:Nat),k < i→B[k]?=some x→(x:Int) < a)∧(∀ (k x:Nat),i≤k→B[k]?=some x→a≤(x:Int))
set_option maxRecDepth 100000 in
set_option maxHeartbeats 1000000 in
theorem seek_any (w:World) (c:Nat) (v:Value) (B:List Nat) (a:Nat) (h:Cu 131 w c v B a) (hB:Bn B) (p:Int) :
    Calls Tryz.prog 72 #[pv c,.int .i64 p] w fun e w'=>(∃ i:Nat,SeekIs B p i∧e=.returned (.tuple #[.int .i64 (i:Int),.bool (seekB B i p)]))∧w'=w:=by
  have hpos:=hB.pos
  have hfew:=hB.few
  obtain ⟨g,cap,rfl,hgc,cell⟩:=h.cells hpos
  have c0:=Rf.cell_blk h.blk 0 (.slice (some ⟨g,0,none⟩) B.length cap) rfl
  obtain ⟨N,hN⟩:∃ N,B.length=N + 1:=⟨B.length - 1,by omega⟩
  have hbs:=bsg_any w (fun k=>(B.getD k 0:Int)) N g cap (by omega) (fun k hk=>by
    have hx:B[k]?=some B[k]:=List.getElem?_eq_getElem (by omega)
    rw [cell k _ hx]
    simp [List.getD,hx]) (fun i k hik hk=>by
    rcases Nat.lt_or_ge i k with e | e
    · have hx:B[i]?=some B[i]:=List.getElem?_eq_getElem (by omega)
      have hy:B[k]?=some B[k]:=List.getElem?_eq_getElem (by omega)
      have:=G.asc_lt hB.asc e hx hy
      simp only [List.getD,hx,hy,Option.getD_some]
      omega
    · obtain rfl:i=k:=by omega
      exact Int.le_refl _) p
  rw [← hN] at hbs
  have HN:Hid (B.length=N + 1):=hN
  clear hN cell h
  go_enter Tryz.func72,Tryz.ntmps72
  go_wp2_with (go_at_call 93;refine hbs.mono ?_;rintro e w1 ⟨⟨i,h1,h2,h3,rfl⟩,rfl⟩)
  go_ret2
  have hn:=HN.out
  refine ⟨⟨i,⟨by omega,fun k x hk hx=>?_,fun k x hk hx=>?_⟩,?_⟩,rfl⟩
  · have:=h2 k hk
    simpa [List.getD,hx] using this
  · have:=h3 k hk (by have:=(List.getElem?_eq_some_iff.1 hx).1;omega)
    simpa [List.getD,hx] using this
  · refine ret_ib ?_
    unfold bsB seekB
    rcases Nat.lt_or_ge N i with e | e
    · rw [List.getElem?_eq_none (by omega)]
      simp
      omega
    · have hx:B[i]?=some B[i]:=List.getElem?_eq_getElem (by omega)
      simp [hx,e]
theorem SeekIs.above {B:List Nat} {a:Int} {i:Nat} (h:SeekIs B a i) (hB:Bn B):(seekB B i a=true→G.AboveIs B a (gotoR B ((i:Int) + 1)))∧(seekB B i a=false→G.AboveIs B a (gotoR B (i:Int))):=by
  refine ⟨fun hs=>?_,fun hs=>?_⟩
  · unfold seekB at hs
    cases hx:B[i]? with
    | none=>rw [hx] at hs;cases hs
    | some x =>
      rw [hx] at hs
      have hxa:(x:Int)=a:=by simpa using hs
      unfold gotoR
      rw [if_neg (by omega),show ((i:Int) + 1).toNat=i + 1 by omega]
      cases hy:B[i + 1]? with
      | none =>
        refine .inr ⟨fun j y hj=>?_,rfl⟩
        have hjl:=(List.getElem?_eq_some_iff.1 hj).1
        have hil:=List.getElem?_eq_none_iff.1 hy
        rcases Nat.lt_or_ge j i with e | e
        · have:=h.2.1 j y e hj;omega
        · obtain rfl:j=i:=by omega
          rw [hx] at hj
          simp only [Option.some.injEq] at hj
          omega
      | some y =>
        refine .inl ⟨i + 1,y,hy,?_,fun j z hj hz=>?_,rfl⟩
        · have:=G.asc_lt hB.asc (Nat.lt_succ_self i) hx hy
          omega
        · rcases Nat.lt_or_ge j i with e | e
          · have:=h.2.1 j z e hz;omega
          · obtain rfl:j=i:=by omega
            rw [hx] at hz
            simp only [Option.some.injEq] at hz
            omega
  · unfold gotoR
    rw [if_neg (by omega),Int.toNat_natCast]
    unfold seekB at hs
    cases hx:B[i]? with
    | none =>
      refine .inr ⟨fun j y hj=>?_,rfl⟩
      have hjl:=(List.getElem?_eq_some_iff.1 hj).1
      have hil:=List.getElem?_eq_none_iff.1 hx
      have:=h.2.1 j y (by omega) hj
      omega
    | some x =>
      rw [hx] at hs
      have hxa:¬ (x:Int)=a:=by simpa using hs
      have h3:=h.2.2 i x (Nat.le_refl _) hx
      exact .inl ⟨i,x,hx,by omega,fun j z hj hz=>by have:=h.2.1 j z hj hz;omega,rfl⟩
theorem SeekIs.below {B:List Nat} {a:Int} {i:Nat} (h:SeekIs B a i):G.BelowIs B a (gotoR B ((i:Int) - 1)):=by
  unfold gotoR
  by_cases h0:i=0
  · subst h0
    rw [if_pos (by omega)]
    exact .inr ⟨fun j y hj=>h.2.2 j y (Nat.zero_le _) hj,rfl⟩
  · rw [if_neg (by omega),show ((i:Int) - 1).toNat=i - 1 by omega]
    have hx:B[i - 1]?=some (B[i - 1]'(by have:=h.1;omega)):=List.getElem?_eq_getElem _
    generalize B[i - 1]'(by have:=h.1;omega)=x at hx
    rw [hx]
    exact .inl ⟨i - 1,x,hx,h.2.1 _ x (by omega) hx,fun j y hj hy=>h.2.2 j y (by omega) hy,rfl⟩
theorem SeekIs.isB {B:List Nat} {a:Int} {i:Nat} (h:SeekIs B a i) (hB:Bn B):seekB B i a=Cs.isB B a:=by
  rw [Bool.eq_iff_iff,isB_iff]
  unfold seekB
  constructor
  · intro hs
    cases hx:B[i]? with
    | none=>rw [hx] at hs;cases hs
    | some x=>rw [hx] at hs;exact ⟨x,List.mem_of_getElem? hx,by simpa using hs⟩
  · rintro ⟨x,hx,he⟩
    obtain ⟨j,hj⟩:=List.mem_iff_getElem?.1 hx
    have hij:i≤j:=by
      rcases Nat.lt_or_ge j i with e | e
      · have:=h.2.1 j x e hj;omega
      · exact e
    rcases Nat.lt_or_ge i j with e | e
    · have hy:B[i]?=some (B[i]'(by have:=(List.getElem?_eq_some_iff.1 hj).1;omega)):=List.getElem?_eq_getElem _
      have h1:=h.2.2 i _ (Nat.le_refl _) hy
      have h2:=G.asc_lt hB.asc e hy hj
      omega
    · obtain rfl:i=j:=by omega
      rw [hj]
      simpa using he
set_option maxRecDepth 100000 in
set_option maxHeartbeats 1000000 in
theorem pfollow_any (w:World) (c:Nat) (v:Value) (B:List Nat) (a:Nat) (h:Cu 131 w c v B a) (hB:Bn B) (p:Int) :
    Calls Tryz.prog 42 #[pv c,.int .i64 p] w fun e w'=>∃ r,G.AboveIs B p r∧MovesTo 131 w c v B a r e w':=by
  have hfew:=hB.few
  have hs:Calls Tryz.prog 72 #[pv c,.int .i64 p] w fun e w'=>(∃ (n:Int) (x:Bool),(0≤n∧n≤1001)∧(x=true→G.AboveIs B p (gotoR B (n + 1)))∧(x=false→G.AboveIs B p (gotoR B n))∧e=.returned (.tuple #[.int .i64 n,.bool x]))∧w'=w:=by
    refine (seek_any w c v B a h hB p).mono ?_
    rintro e w1 ⟨⟨i,hi,rfl⟩,rfl⟩
    have hil:=hi.1
    exact ⟨⟨(i:Int),seekB B i p,by omega,(hi.above hB).1,(hi.above hB).2,rfl⟩,rfl⟩
  have hg:∀ n,Calls Tryz.prog 71 #[pv c,.int .i64 n] w fun e w'=>e=.returned (.int .i64 (gotoR B n))∧Cu 131 w' c v B (G.stand a (gotoR B n))∧Rf.Kept (fun k=>k ≠ c) w w':=fun n=>goTo_any w c v B a h hB n
  show Calls Tryz.prog 42 #[pv c,.int .i64 p] w fun e w'=>∃ r,G.AboveIs B p r∧e=.returned (.int .i64 r)∧Cu 131 w' c v B (G.stand a r)∧Rf.Kept (fun k=>k ≠ c) w w'
  generalize gotoR B=gr at *
  clear h
  go_enter Tryz.func42,Tryz.ntmps42
  go_wp2_with fail
  refine hs.mono ?_
  rintro e w1 ⟨⟨n,x,⟨hn1,hn2⟩,ht,hf,rfl⟩,rfl⟩
  have HI:Hid _:=And.intro ht hf
  clear ht hf hs
  cases x
  · go_wp2_with (go_at_call 71;refine (hg n).mono ?_;rintro e w2 ⟨rfl,h2,h3⟩)
    go_ret
    exact ⟨_,HI.out.2 (by first | rfl | trivial),rfl,h2,h3⟩
  · go_wp2_with (go_at_call 71;refine (hg (n + 1)).mono ?_;rintro e w2 ⟨rfl,h2,h3⟩)
    go_ret
    exact ⟨_,HI.out.1 (by first | rfl | trivial),rfl,h2,h3⟩
set_option maxRecDepth 100000 in
set_option maxHeartbeats 1000000 in
theorem ppreced_any (w:World) (c:Nat) (v:Value) (B:List Nat) (a:Nat) (h:Cu 131 w c v B a) (hB:Bn B) (p:Int) :
    Calls Tryz.prog 43 #[pv c,.int .i64 p] w fun e w'=>∃ r,G.BelowIs B p r∧MovesTo 131 w c v B a r e w':=by
  have hfew:=hB.few
  go_enter Tryz.func43,Tryz.ntmps43
  go_wp2_with (first
    | (go_at_call 72;refine (seek_any w c v B a h hB p).mono ?_;rintro e w1 ⟨⟨i,hi,rfl⟩,rfl⟩;have hil:=hi.1;have HI:Hid _:=hi.below;clear hi)
    | (go_at_call 71;refine (goTo_any _ c v B a h hB ((i:Int) - 1)).mono ?_;rintro e w2 ⟨rfl,h2,h3⟩))
  go_ret
  exact ⟨_,HI.out,rfl,h2,h3⟩
set_option maxRecDepth 100000 in
set_option maxHeartbeats 1000000 in
theorem pisB_any (w:World) (c:Nat) (v:Value) (B:List Nat) (a:Nat) (h:Cu 131 w c v B a) (hB:Bn B) (p:Int) :
    Calls Tryz.prog 41 #[pv c,.int .i64 p] w fun e w'=>e=.returned (.bool (Cs.isB B p))∧w'=w:=by
  go_enter Tryz.func41,Tryz.ntmps41
  go_wp2_with (go_at_call 72;refine (seek_any w c v B a h hB p).mono ?_;rintro e w1 ⟨⟨i,hi,rfl⟩,rfl⟩)
  go_ret
  exact ⟨(congrArg (fun x=>Ending.returned (Value.bool x)) (hi.isB hB)),rfl⟩
set_option maxRecDepth 100000 in
set_option maxHeartbeats 1000000 in
theorem pnext_any (w:World) (c:Nat) (v:Value) (B:List Nat) (a:Nat) (h:Cu 131 w c v B a) (hB:Bn B) :
    Calls Tryz.prog 33 #[pv c] w fun e w'=>∃ r,G.AboveIs B (a:Int) r∧MovesTo 131 w c v B a r e w':=by
  have c1:=Rf.cell_blk h.blk 1 (.int .i64 (a:Int)) rfl
  go_enter Tryz.func33,Tryz.ntmps33
  go_wp2_with (go_at_call 42;refine (pfollow_any w c v B a h hB (a:Int)).mono ?_;rintro e w2 ⟨r,hr,rfl,h2,h3⟩)
  go_ret
  exact ⟨r,hr,rfl,h2,h3⟩
set_option maxRecDepth 100000 in
set_option maxHeartbeats 1000000 in
theorem pprev_any (w:World) (c:Nat) (v:Value) (B:List Nat) (a:Nat) (h:Cu 131 w c v B a) (hB:Bn B) :
    Calls Tryz.prog 40 #[pv c] w fun e w'=>∃ r,G.BelowIs B (a:Int) r∧MovesTo 131 w c v B a r e w':=by
  have c1:=Rf.cell_blk h.blk 1 (.int .i64 (a:Int)) rfl
  go_enter Tryz.func40,Tryz.ntmps40
  go_wp2_with (go_at_call 43;refine (ppreced_any w c v B a h hB (a:Int)).mono ?_;rintro e w2 ⟨r,hr,rfl,h2,h3⟩)
  go_ret
  exact ⟨r,hr,rfl,h2,h3⟩
set_option maxRecDepth 100000 in
set_option maxHeartbeats 1000000 in
theorem pfirst_any (w:World) (c:Nat) (v:Value) (B:List Nat) (a:Nat) (h:Cu 131 w c v B a) (hB:Bn B) :
    Calls Tryz.prog 44 #[pv c] w fun e w'=>MovesTo 131 w c v B a 0 e w':=by
  have hr:gotoR B 0=0:=by
    unfold gotoR
    rw [if_neg (by omega)]
    rw [show (0:Int).toNat=0 from rfl,hB.zero]
    rfl
  have hg:=goTo_any w c v B a h hB 0
  rw [hr] at hg
  go_enter Tryz.func44,Tryz.ntmps44
  go_wp2_with (go_at_call 71;refine hg.mono ?_;rintro e w2 ⟨rfl,h2,h3⟩)
  go_ret
  exact ⟨rfl,h2,h3⟩
set_option maxRecDepth 100000 in
set_option maxHeartbeats 1000000 in
theorem plast_any (w:World) (c:Nat) (v:Value) (B:List Nat) (a z:Nat) (h:Cu 131 w c v B a) (hB:Bn B) (hz:B[B.length - 1]?=some z) :
    Calls Tryz.prog 38 #[pv c] w fun e w'=>MovesTo 131 w c v B a (z:Int) e w':=by
  have hpos:=hB.pos
  have hfew:=hB.few
  have hr:gotoR B ((B.length:Int) - 1)=(z:Int):=by
    unfold gotoR
    rw [if_neg (by omega),show ((B.length:Int) - 1).toNat=B.length - 1 by omega,hz]
  have hg:=goTo_any w c v B a h hB ((B.length:Int) - 1)
  rw [hr] at hg
  obtain ⟨g,cap,rfl,hgc,cell⟩:=h.cells hpos
  have c0:=Rf.cell_blk h.blk 0 (.slice (some ⟨g,0,none⟩) B.length cap) rfl
  clear cell hr
  go_enter Tryz.func38,Tryz.ntmps38
  go_wp2_with (go_at_call 71;refine hg.mono ?_;rintro e w2 ⟨rfl,h2,h3⟩)
  go_ret
  exact ⟨rfl,h2,h3⟩
set_option maxRecDepth 100000 in
theorem pcur_any (w:World) (c:Nat) (v:Value) (B:List Nat) (a:Nat) (h:Cu 131 w c v B a) :
    Calls Tryz.prog 32 #[pv c] w fun e w'=>e=.returned (.int .i64 (a:Int))∧w'=w:=by
  have c1:=Rf.cell_blk h.blk 1 (.int .i64 (a:Int)) rfl
  go_enter Tryz.func32,Tryz.ntmps32
  go_wp2
  go_ret
  exact ⟨rfl,rfl⟩
end Pr
end Go.Proofs.YtpgcidpghmoibaaGreatDoor

namespace Go.Proofs.YtpgcidpghmoibaaGreatDoor
namespace Pr
open Go.RowKit
open Cs
open G (PNode)
set_option maxRecDepth 100000 in
set_option maxHeartbeats 1000000 in
theorem pover_long (w:World) (b:Nat) (s:ByteArray) (hs:1000 < s.size) (hm:s.size≤maxLen) :
    Calls Tryz.prog 31 #[pv b,.string s] w fun e w'=>e=.returned (.tuple #[.pointer none,.int .i64 1])∧w'=w:=by
  go_enter Tryz.func31,Tryz.ntmps31
  go_wp2_with (go_at_call 27;refine (pcut_long w b s hs hm).mono ?_;rintro e w2 ⟨rfl,rfl⟩)
  go_ret2
  exact ⟨rfl,rfl⟩
set_option maxRecDepth 100000 in
set_option maxHeartbeats 2000000 in
theorem pover_short (w:World) (b m:Nat) (I:Nat→Prop) (v:Value) (V:List Value) (T:List PNode) (Q:List Nat) (P:List Pl) (f:PB) (hP:PIn w b m I v V T Q P f) (s:ByteArray) (hs:s.size≤1000) :
    Calls Tryz.prog 31 #[pv b,.string s] w fun e w'=>(∃ c v l,e=.returned (.tuple #[pv c,.int .i64 0])∧G.CutR T Q s 0 l∧Cu 131 w' c v (G.bnds 0 l) 0∧w.heap.size≤c∧(∀ k,v.ownBlock=some k→w.heap.size≤k))∧Below w.heap.size w w':=by
  obtain ⟨i0,hi,hz0,hz1,hz2⟩:=info_parts infoInt
  have hul:=U.units_length s
  go_enter Tryz.func31,Tryz.ntmps31
  go_wp2_with (go_at_call 27;refine (pcut_short w b m I v V T Q P f hP s hs).mono ?_;rintro e w2 ⟨⟨v2,l,rfl,hcut,ho⟩,hb2⟩;obtain ⟨a2,d2,hv2⟩:=Rf.own_len ho;subst hv2)
  have z2:=hb2.size
  have o2:=Rf.own_zero ho
  have hfew:=Rf.cut_few hcut
  rw [G.us_len] at hfew
  have hr0:=Rf.own_new w2 w2.heap.size 3 1 1 #[.int .i64 0] (Nat.le_refl _) rfl (by unfold maxLen;omega)
  go_loopw [8,23] (fun vb vi wr=>∃ k:Nat,vi=.int .i64 k∧k≤l.length∧wr.ownsRow w2.heap.size 3 1 vb (k + 1) (bV (G.bnds 0 (l.take k)))∧Below w2.heap.size w2 wr) (fun _ vi _=>l.length - (intOf vi).toNat)
  case atStart=>exact ⟨0,rfl,Nat.zero_le _,hr0,(Below.refl _ _).alloc (Nat.le_refl _) _⟩
  case round =>
    obtain ⟨k,rfl,hk,hrow,hbr⟩:=hrel
    have zr:=hbr.size
    by_cases hlt:k < l.length
    · have hx:l[k]?=some l[k]:=List.getElem?_eq_getElem hlt
      generalize l[k]=x at hx
      obtain ⟨g1,rfl,cs⟩:=Rf.seg_to o2 hx hlt
      obtain ⟨e0,e1,e2⟩:=cs wr hbr
      have HS:Hid _:=Rf.bnds_snoc 0 l k x hx
      obtain ⟨va,vc,hve⟩:=Rf.own_len hrow
      subst hve
      have HB:Hid _:=And.intro hbr hrow
      clear cs hbr hr0
      go_wp2_with
        (at_builtin
         refine wpList_append_own_at _ rfl (.tmp 27) (.tmp 30) 33 rfl w2.heap.size 3 i0 (.int .i64 0) 1 8 Tryz.underlying33 hi hz0 hz1 hz2 rfl (by decide) _ (k + 1) (bV (G.bnds 0 (l.take k))) rfl ((hrow.alloc _).alloc _) ⟨wr.heap.size + 1,0,none⟩ 1 1 [.int .i64 (x.t:Int)] rfl rfl (World.news_of_block (cs:=#[.int .i64 (x.t:Int)]) (t:=3) (fr:=(0,0)) (by have:=heap_alloc_new (wr.alloc (.cells #[.int .i64 (x.f:Int),.int .i64 (x.t:Int),.int .i64 x.r] 65)) (.cells #[.int .i64 (x.t:Int)] 3);simpa using this)) (fun y hy=>by simp at hy;subst hy;rfl) (by unfold maxLen;omega) (by omega) (by simp;omega) ?_
         intro v5 w5 hn5 hg5 _ hat5)
      have hfin:w5.ownsRow w2.heap.size 3 1 v5 (k + 1 + 1) (bV (G.bnds 0 (l.take (k + 1)))):=by rw [HS.out,bV_snoc];exact hn5
      have hb5:Below w2.heap.size w2 w5:=Below.grown ((HB.out.1.alloc (by omega) _).alloc (by simp;omega) _) hg5 (by simp;omega) (fun i e=>(HB.out.2.lt i e).1)
      go_roundw
      case rel=>exact ⟨k + 1,by go_num,by omega,hfin,hb5⟩
      case measure=>simp [intOf];omega
    · obtain rfl:k=l.length:=by omega
      obtain ⟨va,vc,hve⟩:=Rf.own_len hrow
      subst hve
      rw [List.take_length] at hrow
      clear hr0
      go_wp2
      go_ret2
      refine ⟨⟨wr.heap.size,.slice va (l.length + 1) vc,l,rfl,hcut,⟨heap_alloc_new wr _,?_,fun e=>by have:=(hrow.lt _ e).2;omega⟩,by omega,fun j e=>by have:=(hrow.lt j e).1;omega⟩,(hb2.trans (hbr.mono z2)).alloc (by omega) _⟩
      rw [G.bnds_len]
      exact Rf.own_same (Rf.own_zero hrow) (fun j e=>Below.heap_alloc _ _ _ (hrow.lt j e).2)
end Pr
end Go.Proofs.YtpgcidpghmoibaaGreatDoor
