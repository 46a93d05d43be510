/-
  THE REFERENCE's Over
  THE LAW's HELPER moves
  THE LAW's HELPER sure
  THE PROGRAM's Compile of any source, as the laws without the reference
-/
import Derived.Test.YtpgcidpghmoibaaGreatDoorK25
import Derived.Deep.Cut
import Derived.Test.YtpgcidpghmoibaaGreatDoorK45
import Derived.Lib.QuietBelow
import Derived.Deep.QuietTactic
import Derived.BigQuiet
namespace Go.Proofs.YtpgcidpghmoibaaGreatDoor
namespace Rf
open Go.RowKit
open Cs
open G (PNode)
set_option maxRecDepth 100000 in
set_option maxHeartbeats 1000000 in
theorem rover_long (w:World) (b:Nat) (s:ByteArray) (hs:1000 < s.size) (hm:s.size≤maxLen) :
    Calls Tryz.prog 34 #[.pointer (some ⟨b,0,none⟩),.string s] w fun e w'=>(∃ c,e=.returned (.tuple #[.pointer (some ⟨c,0,none⟩),.int .i64 1]))∧Below w.heap.size w w':=by
  go_enter Tryz.func34,Tryz.ntmps34
  go_wp2_with (go_at_call 58;refine (rcut_long w b s hs hm).mono ?_;rintro e w2 ⟨rfl,rfl⟩)
  go_loopw [9] (fun vi wr=>vi=.int .i64 0∧Below w2.heap.size w2 wr) (fun _ _=>0)
  case atStart=>exact ⟨rfl,((Below.refl _ _).alloc (Nat.le_refl _) _).alloc (by simp) _⟩
  case round =>
    obtain ⟨rfl,hb⟩:=hrel
    go_wp2
    go_ret2
    exact ⟨⟨_,rfl⟩,hb⟩
set_option maxRecDepth 100000 in
set_option maxHeartbeats 2000000 in
theorem rover_short (w:World) (b:Nat) (T:List PNode) (Q:List Nat) (L:List PState) (B F:List Nat) (I:Nat→Prop) (hR:RIn w b T Q L B F I) (s:ByteArray) (hs:s.size≤1000) :
    Calls Tryz.prog 34 #[.pointer (some ⟨b,0,none⟩),.string s] w fun e w'=>(∃ c v l,e=.returned (.tuple #[.pointer (some ⟨c,0,none⟩),.int .i64 0])∧G.CutR T Q s 0 l∧Cu 84 w' c v (G.bnds 0 l) 0∧w.heap.size≤c∧(∀ k,v.ownBlock=some k→w.heap.size≤k))∧Below w.heap.size w w':=by
  obtain ⟨i0,hi,hz0,hz1,hz2⟩:=info_parts infoInt
  have hul:=U.units_length s
  go_enter Tryz.func34,Tryz.ntmps34
  go_wp2_with (go_at_call 58;refine (rcut_short w b T Q L B F I hR s hs).mono ?_;rintro e w2 ⟨⟨v2,l,rfl,hcut,ho⟩,hb2⟩;obtain ⟨a2,d2,hv2⟩:=own_len ho;subst hv2)
  have z2:=hb2.size
  have o2:=own_zero ho
  have hfew:=cut_few hcut
  rw [G.us_len] at hfew
  have hc0:Cu 84 ((w2.alloc (.cells #[.int .i64 0] 3)).alloc (.cells #[.slice (some ⟨w2.heap.size,0,none⟩) 1 1,.int .i64 0] 84)) (w2.heap.size + 1) (.slice (some ⟨w2.heap.size,0,none⟩) 1 1) (G.bnds 0 (l.take 0)) 0:=by
    refine ⟨?_,?_,?_⟩
    · have:=heap_alloc_new (w2.alloc (.cells #[.int .i64 0] 3)) (.cells #[.slice (some ⟨w2.heap.size,0,none⟩) 1 1,.int .i64 0] 84)
      simpa using this
    · have:=own_new w2 0 3 1 1 #[.int .i64 0] (Nat.zero_le _) rfl (by unfold maxLen;omega)
      exact own_same this (fun k e=>Below.heap_alloc _ _ _ (this.lt k e).2)
    · simp [Value.ownBlock]
  go_loopw [9] (fun vi wr=>∃ (k:Nat) (v:Value),vi=.int .i64 k∧k≤l.length∧Cu 84 wr (w2.heap.size + 1) v (G.bnds 0 (l.take k)) 0∧(∀ j,v.ownBlock=some j→w2.heap.size≤j)∧Below w2.heap.size w2 wr) (fun vi _=>l.length - (intOf vi).toNat)
  case atStart=>exact ⟨0,_,rfl,Nat.zero_le _,hc0,fun j e=>by simp [Value.ownBlock] at e;omega,((Below.refl _ _).alloc (Nat.le_refl _) _).alloc (by simp) _⟩
  case round =>
    obtain ⟨k,v,rfl,hk,hC,hv,hbr⟩:=hrel
    by_cases hlt:k < l.length
    · have hx:l[k]?=some l[k]:=List.getElem?_eq_getElem hlt
      generalize l[k]=x at hx
      obtain ⟨g1,rfl,cs⟩:=seg_to o2 hx hlt
      have e1:=(cs wr hbr).2.1
      have hBl:(G.bnds 0 (l.take k)).length=k + 1:=by rw [G.bnds_len,List.length_take];omega
      obtain ⟨va,vc,hve⟩:=own_len hC.row
      subst hve
      have c0:=cell_blk hC.blk 0 (.slice va (G.bnds 0 (l.take k)).length vc) rfl
      have hcl:=lt_of_block hC.blk
      have hne:=hC.ne
      have orow:=hC.row
      rw [hBl] at c0 hne orow
      have HS:Hid _:=bnds_snoc 0 l k x hx
      have HC:Hid _:=And.intro hC (And.intro hv hbr)
      have zr:=hbr.size
      clear hC hv hbr cs hc0
      rw [hBl] at HC
      go_upto_region 6 with fail
      go_region_law
        ((refine step_append_lies _ (by rfl) _ _ _ (by rfl) 0 3 i0 _ 1 8 Tryz.underlying33 hi hz0 hz1 hz2 rfl (by omega) (.slice va (k + 1) vc) (k + 1) (bV (G.bnds 0 (l.take k))) (by rfl) ((orow.alloc _).drew)
            ⟨wr.heap.size,0,none⟩ 1 1 [.int .i64 (x.t:Int)] (by rfl) (by rfl) (World.news_of_block (cs:=#[.int .i64 (x.t:Int)]) (t:=3) (fr:=(0,0)) (heap_alloc_new wr _)) (by simp [Value.oneCell'])
            (by omega) (by unfold maxLen;omega) (by omega) (by simp) (wr.heap.size + 1) (by simp) ?_;intro g2 cap2 w4 hn2 hg2 hat2 hlt2;have hb4:w4.heap[w2.heap.size + 1]?=_:=(hg2.block (w2.heap.size + 1) (by simp;omega) (fun e=>hne e.symm)).trans ((Below.heap_alloc _ _ _ hcl).trans HC.out.1.blk);have fb2':=free_blk hb4 0;have cb2':=cell_blk hb4 0 (.slice va (k + 1) vc) rfl;clear hb4))
      all_goals
        have hfin:=HC.out.1.grow (v':=.slice (some ⟨g2,0,none⟩) (k + 1 + 1) cap2) (x:=x.t) (((Kept.refl _ _).alloc _).drew) hg2 (lies_of hat2 (by omega)) (by rw [hBl];exact hn2)
        have hnew:∀ j,(Value.slice (some ⟨g2,0,none⟩) (k + 1 + 1) cap2).ownBlock=some j→w2.heap.size≤j:=fun j e=>by
          rcases lies_of (w:=wr) hat2 (by omega) j e with h | h
          · exact HC.out.2.1 j h
          · omega
        have hbel:Below w2.heap.size w2 (w4.setCell ⟨w2.heap.size + 1,0,none⟩ (.slice (some ⟨g2,0,none⟩) (k + 1 + 1) cap2)):=(((((Kept.of_below (p:=fun _=>True) HC.out.2.2).alloc _).drew).grown hg2 (fun j e hj _=>by have:=HC.out.2.1 j e;omega)).setNew (q:=⟨w2.heap.size + 1,0,none⟩) (by show _≤w2.heap.size + 1;omega) _).all
        rw [← HS.out] at hfin
        have HF:Hid _:=And.intro hfin (And.intro hnew hbel)
        clear hfin hnew hbel hn2 hg2 hat2 hlt2 fb2' cb2' c0 e1
        generalize w4.setCell ⟨w2.heap.size + 1,0,none⟩ (.slice (some ⟨g2,0,none⟩) (k + 1 + 1) cap2)=w5 at HF ⊢
        go_wp2
        go_roundw
        case rel=>exact ⟨k + 1,_,by go_num,by omega,HF.out.1,HF.out.2.1,HF.out.2.2⟩
        case measure=>simp [intOf];omega
    · obtain rfl:k=l.length:=by omega
      go_wp2
      go_ret2
      rw [List.take_length] at hC
      exact ⟨⟨_,v,l,rfl,hcut,hC,by omega,fun j e=>by have:=hv j e;omega⟩,hb2.trans (hbr.mono z2)⟩
set_option maxRecDepth 100000 in
set_option maxHeartbeats 1000000 in
theorem rlast_any (w:World) (c:Nat) (v:Value) (B:List Nat) (a z:Nat) (h:Cu 84 w c v B a) (hB:Bn B) (hz:B[B.length - 1]?=some z) :
    Calls Tryz.prog 64 #[.pointer (some ⟨c,0,none⟩)] w fun e w'=>MovesTo 84 w c v B a (z:Int) e w':=by
  have hpos:=hB.pos
  have hfew:=hB.few
  have hd:Cu 84 w.drew c v B a:=h.same (fun _ _=>rfl)
  have hg:=goes_any w.drew c v B a hd (z:Int) (.inl ⟨z,rfl⟩)
  obtain ⟨g,cap,rfl,hgc,cell⟩:=h.cells hpos
  have c0:=cell_blk h.blk 0 (.slice (some ⟨g,0,none⟩) B.length cap) rfl
  have cz:=cell (B.length - 1) z hz
  obtain ⟨N,hN⟩:∃ N,B.length=N + 1:=⟨B.length - 1,by omega⟩
  rw [show B.length - 1=N by omega] at cz
  have hn1:IntKind.i64.wrap ((B.length:Int) - 1)=(N:Int):=by rw [IntKind.wrap_i64];omega
  have hn3:(N:Int) < (B.length:Int):=by omega
  have hn4:(0:Int)≤(N:Int):=by omega
  have hn5:¬ (N:Int) < 0:=by omega
  have hn7:N < B.length:=by omega
  generalize B.length=n at *
  clear hN
  clear cell h hd hz hpos hfew
  go_enter Tryz.func64,Tryz.ntmps64
  go_wp2_with fail
  go_region_with (go_at_call 90;refine hg.mono ?_;rintro e w2 ⟨rfl,h2,h3⟩)
  all_goals
    go_wp2
    go_ret
    exact ⟨rfl,h2,(Kept.refl _ _).drew.trans h3⟩
end Rf
end Go.Proofs.YtpgcidpghmoibaaGreatDoor

namespace Go.Proofs.YtpgcidpghmoibaaGreatDoor
namespace Pr
open Go.RowKit
open Cs
structure Two (w:World) (c d:Nat) (v u:Value) (B:List Nat) (a:Nat):Prop where
  p:Cu 131 w c v B a
  r:Cu 84 w d u B a
  cd:c ≠ d
  vd:v.ownBlock ≠ some d
  uc:u.ownBlock ≠ some c
theorem Two.below {w w':World} {c d:Nat} {v u:Value} {B:List Nat} {a:Nat} (h:Two w c d v u B a) (hb:Below w.heap.size w w'):Two w' c d v u B a:=⟨h.p.below hb,h.r.below hb,h.cd,h.vd,h.uc⟩
def MvPost (w:World) (c d:Nat) (v u:Value) (B:List Nat) (e:Ending) (w':World):Prop:=
  e=.returned (.bool true)∧(∃ a',Two w' c d v u B a')∧Rf.Kept (fun k=>k ≠ c∧k ≠ d) w w'
theorem Cu.kept {t:TypeId} {w w':World} {c k:Nat} {v:Value} {B:List Nat} {a:Nat} (h:Cu t w c v B a) (hk:Rf.Kept (fun j=>j ≠ k) w w') (h1:c ≠ k) (h2:v.ownBlock ≠ some k):Cu t w' c v B a:=
  h.same fun j e=>hk.block j (h.lt j e) (by
    rintro rfl
    rcases e with e | e
    · exact h1 e.symm
    · exact h2 e)
theorem kept_cell {w w':World} {k x i:Nat} {u:Value} (hk:Rf.Kept (fun j=>j ≠ k) w w') (hx:x < w.heap.size) (hxk:x ≠ k) (hc:w.cell? ⟨x,i,none⟩=some u):w'.cell? ⟨x,i,none⟩=some u:=by
  have:=hk.block x hx hxk
  unfold World.cell? at hc ⊢
  rw [this]
  exact hc
theorem cur_grown {w:World} {c:Nat} {v:Value} {B:List Nat} {a:Nat} (h:Cu 131 w c v B a) (d:Nat) (os:Array Obj):Calls Tryz.prog 32 #[pv c] (Sort.grow (redrawn w d) os) fun e w''=>e=.returned (.int .i64 (a:Int))∧∃ p:Regrown,w''=Sort.grow (redrawn w p.d) p.os:=
  Calls.regrown_of ((pcur_any _ c v B a (h.below (below_regrown w d os))).mono (fun _ _ ⟨h1,h2⟩=>⟨h1,by rw [h2];exact Below.refl _ _⟩))
set_option maxRecDepth 100000 in
set_option maxHeartbeats 2000000 in
theorem moves_first (w:World) (c d:Nat) (v u:Value) (B:List Nat) (a:Nat) (h:Two w c d v u B a) (hB:Bn B) (i:Int) :
    Calls Tryz.prog 36 #[pv c,pv d,.agg #[.int .i64 1,.int .i64 i]] w fun e w'=>MvPost w c d v u B e w':=by
  obtain ⟨w1,hw1⟩:∃ w1,w1=w.alloc (.cells #[.int .i64 1,.int .i64 i] 82):=⟨_,rfl⟩
  have hb1:Below w.heap.size w w1:=by rw [hw1];exact (Below.refl _ _).alloc (Nat.le_refl _) _
  have hm:=heap_alloc_new w (.cells #[.int .i64 1,.int .i64 i] 82)
  rw [← hw1] at hm
  have m0:=Rf.cell_blk hm 0 (.int .i64 1) rfl
  have m1:=Rf.cell_blk hm 1 (.int .i64 i) rfl
  have hml:=lt_of_block hm
  have h1:=h.below hb1
  have hcw:=lt_of_block h.p.blk
  have hdw:=lt_of_block h.r.blk
  clear hm
  unfold MvPost
  go_enter Tryz.func36,Tryz.ntmps36
  go_wp2_with fail
  rw [← hw1]
  clear hw1
  refine (pfirst_any w1 c v B a h1.p hB).mono ?_
  rintro e w2 ⟨rfl,hp2,k2⟩
  have m1':=kept_cell k2 hml (by omega) m1
  have hr2:=Cu.kept h1.r k2 (fun e=>h.cd e.symm) h.uc
  clear m0 m1
  go_wp2_with fail
  refine (Rf.first_any w2 d u B a hr2).mono ?_
  rintro e w3 ⟨rfl,hr3,k3⟩
  have hp3:=Cu.kept hp2 k3 h.cd h.vd
  have hK:Rf.Kept (fun k=>k ≠ c∧k ≠ d) w w3:=((Rf.Kept.of_below hb1).trans (k2.mono (fun _ _ e=>e.1))).trans (k3.mono (fun _ _ e=>e.2))
  clear m1' hr2 hp2 k2 k3 h1
  have hN:=cur_grown hp3
  have q1:∀ d' os,(Sort.grow (redrawn w3 d') os).cell? ⟨d,1,none⟩=some (.int .i64 ((G.stand a 0):Int)):=fun d' os=>cell_regrown (Rf.cell_blk hr3.blk 1 _ rfl) d' os
  have HE:Hid _:=And.intro hp3 (And.intro hr3 hK)
  clear hp3 hr3 hK
  generalize hat:(((G.stand a 0):Nat):Int)=at' at hN q1
  clear hat
  go_wp2_with fail
  refine wp_region_quiet_below (by kernel_rfl) (by kernel_rfl) ?_
  repeat (first | go_big_quiet_step (exact hN _ _) | quiet_step (exact hN _ _))
  refine wpQuiet_nil ?_
  intro _ hw'
  obtain ⟨⟨dq,osq⟩,hw''⟩:=hw'
  subst hw''
  go_wp2
  go_ret
  have hb:=below_regrown w3 dq osq
  exact ⟨rfl,⟨(G.stand a 0),⟨HE.out.1.below hb,HE.out.2.1.below hb,h.cd,h.vd,h.uc⟩⟩,HE.out.2.2.trans (Rf.Kept.of_below hb)⟩
set_option maxRecDepth 100000 in
set_option maxHeartbeats 2000000 in
theorem moves_last (w:World) (c d:Nat) (v u:Value) (B:List Nat) (a:Nat) (h:Two w c d v u B a) (hB:Bn B) (i:Int) :
    Calls Tryz.prog 36 #[pv c,pv d,.agg #[.int .i64 2,.int .i64 i]] w fun e w'=>MvPost w c d v u B e w':=by
  obtain ⟨w1,hw1⟩:∃ w1,w1=w.alloc (.cells #[.int .i64 2,.int .i64 i] 82):=⟨_,rfl⟩
  have hb1:Below w.heap.size w w1:=by rw [hw1];exact (Below.refl _ _).alloc (Nat.le_refl _) _
  have hm:=heap_alloc_new w (.cells #[.int .i64 2,.int .i64 i] 82)
  rw [← hw1] at hm
  have m0:=Rf.cell_blk hm 0 (.int .i64 2) rfl
  have m1:=Rf.cell_blk hm 1 (.int .i64 i) rfl
  have hml:=lt_of_block hm
  have h1:=h.below hb1
  have hcw:=lt_of_block h.p.blk
  have hdw:=lt_of_block h.r.blk
  clear hm
  unfold MvPost
  have hpos:=hB.pos
  have hz:B[B.length - 1]?=some (B[B.length - 1]'(by omega)):=List.getElem?_eq_getElem _
  generalize B[B.length - 1]'(by omega)=z at hz
  go_enter Tryz.func36,Tryz.ntmps36
  go_wp2_with fail
  rw [← hw1]
  clear hw1
  refine (plast_any w1 c v B a z h1.p hB hz).mono ?_
  rintro e w2 ⟨rfl,hp2,k2⟩
  have m1':=kept_cell k2 hml (by omega) m1
  have hr2:=Cu.kept h1.r k2 (fun e=>h.cd e.symm) h.uc
  clear m0 m1
  go_wp2_with fail
  refine (Rf.rlast_any w2 d u B a z hr2 hB hz).mono ?_
  rintro e w3 ⟨rfl,hr3,k3⟩
  have hp3:=Cu.kept hp2 k3 h.cd h.vd
  have hK:Rf.Kept (fun k=>k ≠ c∧k ≠ d) w w3:=((Rf.Kept.of_below hb1).trans (k2.mono (fun _ _ e=>e.1))).trans (k3.mono (fun _ _ e=>e.2))
  clear m1' hr2 hp2 k2 k3 h1
  have hN:=cur_grown hp3
  have q1:∀ d' os,(Sort.grow (redrawn w3 d') os).cell? ⟨d,1,none⟩=some (.int .i64 ((G.stand a (z:Int)):Int)):=fun d' os=>cell_regrown (Rf.cell_blk hr3.blk 1 _ rfl) d' os
  have HE:Hid _:=And.intro hp3 (And.intro hr3 hK)
  clear hp3 hr3 hK
  generalize hat:(((G.stand a (z:Int)):Nat):Int)=at' at hN q1
  clear hat
  go_wp2_with fail
  refine wp_region_quiet_below (by kernel_rfl) (by kernel_rfl) ?_
  repeat (first | go_big_quiet_step (exact hN _ _) | quiet_step (exact hN _ _))
  refine wpQuiet_nil ?_
  intro _ hw'
  obtain ⟨⟨dq,osq⟩,hw''⟩:=hw'
  subst hw''
  go_wp2
  go_ret
  have hb:=below_regrown w3 dq osq
  exact ⟨rfl,⟨(G.stand a (z:Int)),⟨HE.out.1.below hb,HE.out.2.1.below hb,h.cd,h.vd,h.uc⟩⟩,HE.out.2.2.trans (Rf.Kept.of_below hb)⟩
set_option maxRecDepth 100000 in
set_option maxHeartbeats 2000000 in
theorem moves_next (w:World) (c d:Nat) (v u:Value) (B:List Nat) (a:Nat) (h:Two w c d v u B a) (hB:Bn B) (i:Int) :
    Calls Tryz.prog 36 #[pv c,pv d,.agg #[.int .i64 3,.int .i64 i]] w fun e w'=>MvPost w c d v u B e w':=by
  obtain ⟨w1,hw1⟩:∃ w1,w1=w.alloc (.cells #[.int .i64 3,.int .i64 i] 82):=⟨_,rfl⟩
  have hb1:Below w.heap.size w w1:=by rw [hw1];exact (Below.refl _ _).alloc (Nat.le_refl _) _
  have hm:=heap_alloc_new w (.cells #[.int .i64 3,.int .i64 i] 82)
  rw [← hw1] at hm
  have m0:=Rf.cell_blk hm 0 (.int .i64 3) rfl
  have m1:=Rf.cell_blk hm 1 (.int .i64 i) rfl
  have hml:=lt_of_block hm
  have h1:=h.below hb1
  have hcw:=lt_of_block h.p.blk
  have hdw:=lt_of_block h.r.blk
  clear hm
  unfold MvPost
  go_enter Tryz.func36,Tryz.ntmps36
  go_wp2_with fail
  rw [← hw1]
  clear hw1
  refine (pnext_any w1 c v B a h1.p hB).mono ?_
  rintro e w2 ⟨r,hr,rfl,hp2,k2⟩
  have m1':=kept_cell k2 hml (by omega) m1
  have hr2:=Cu.kept h1.r k2 (fun e=>h.cd e.symm) h.uc
  clear m0 m1
  go_wp2_with fail
  refine (Rf.next_any w2 d u B a hr2 hB).mono ?_
  rintro e w3 ⟨r',hr',rfl,hr3,k3⟩
  obtain rfl:=hr.one hr'
  have hp3:=Cu.kept hp2 k3 h.cd h.vd
  have hK:Rf.Kept (fun k=>k ≠ c∧k ≠ d) w w3:=((Rf.Kept.of_below hb1).trans (k2.mono (fun _ _ e=>e.1))).trans (k3.mono (fun _ _ e=>e.2))
  clear m1' hr2 hp2 k2 k3 h1
  have hN:=cur_grown hp3
  have q1:∀ d' os,(Sort.grow (redrawn w3 d') os).cell? ⟨d,1,none⟩=some (.int .i64 ((G.stand a r):Int)):=fun d' os=>cell_regrown (Rf.cell_blk hr3.blk 1 _ rfl) d' os
  have HE:Hid _:=And.intro hp3 (And.intro hr3 hK)
  clear hp3 hr3 hK
  generalize hat:(((G.stand a r):Nat):Int)=at' at hN q1
  clear hat
  go_wp2_with fail
  refine wp_region_quiet_below (by kernel_rfl) (by kernel_rfl) ?_
  repeat (first | go_big_quiet_step (exact hN _ _) | quiet_step (exact hN _ _))
  refine wpQuiet_nil ?_
  intro _ hw'
  obtain ⟨⟨dq,osq⟩,hw''⟩:=hw'
  subst hw''
  go_wp2
  go_ret
  have hb:=below_regrown w3 dq osq
  exact ⟨rfl,⟨(G.stand a r),⟨HE.out.1.below hb,HE.out.2.1.below hb,h.cd,h.vd,h.uc⟩⟩,HE.out.2.2.trans (Rf.Kept.of_below hb)⟩
set_option maxRecDepth 100000 in
set_option maxHeartbeats 2000000 in
theorem moves_prev (w:World) (c d:Nat) (v u:Value) (B:List Nat) (a:Nat) (h:Two w c d v u B a) (hB:Bn B) (i:Int) :
    Calls Tryz.prog 36 #[pv c,pv d,.agg #[.int .i64 4,.int .i64 i]] w fun e w'=>MvPost w c d v u B e w':=by
  obtain ⟨w1,hw1⟩:∃ w1,w1=w.alloc (.cells #[.int .i64 4,.int .i64 i] 82):=⟨_,rfl⟩
  have hb1:Below w.heap.size w w1:=by rw [hw1];exact (Below.refl _ _).alloc (Nat.le_refl _) _
  have hm:=heap_alloc_new w (.cells #[.int .i64 4,.int .i64 i] 82)
  rw [← hw1] at hm
  have m0:=Rf.cell_blk hm 0 (.int .i64 4) rfl
  have m1:=Rf.cell_blk hm 1 (.int .i64 i) rfl
  have hml:=lt_of_block hm
  have h1:=h.below hb1
  have hcw:=lt_of_block h.p.blk
  have hdw:=lt_of_block h.r.blk
  clear hm
  unfold MvPost
  go_enter Tryz.func36,Tryz.ntmps36
  go_wp2_with fail
  rw [← hw1]
  clear hw1
  refine (pprev_any w1 c v B a h1.p hB).mono ?_
  rintro e w2 ⟨r,hr,rfl,hp2,k2⟩
  have m1':=kept_cell k2 hml (by omega) m1
  have hr2:=Cu.kept h1.r k2 (fun e=>h.cd e.symm) h.uc
  clear m0 m1
  go_wp2_with fail
  refine (Rf.prev_any w2 d u B a hr2 hB).mono ?_
  rintro e w3 ⟨r',hr',rfl,hr3,k3⟩
  obtain rfl:=hr.one hr'
  have hp3:=Cu.kept hp2 k3 h.cd h.vd
  have hK:Rf.Kept (fun k=>k ≠ c∧k ≠ d) w w3:=((Rf.Kept.of_below hb1).trans (k2.mono (fun _ _ e=>e.1))).trans (k3.mono (fun _ _ e=>e.2))
  clear m1' hr2 hp2 k2 k3 h1
  have hN:=cur_grown hp3
  have q1:∀ d' os,(Sort.grow (redrawn w3 d') os).cell? ⟨d,1,none⟩=some (.int .i64 ((G.stand a r):Int)):=fun d' os=>cell_regrown (Rf.cell_blk hr3.blk 1 _ rfl) d' os
  have HE:Hid _:=And.intro hp3 (And.intro hr3 hK)
  clear hp3 hr3 hK
  generalize hat:(((G.stand a r):Nat):Int)=at' at hN q1
  clear hat
  go_wp2_with fail
  refine wp_region_quiet_below (by kernel_rfl) (by kernel_rfl) ?_
  repeat (first | go_big_quiet_step (exact hN _ _) | quiet_step (exact hN _ _))
  refine wpQuiet_nil ?_
  intro _ hw'
  obtain ⟨⟨dq,osq⟩,hw''⟩:=hw'
  subst hw''
  go_wp2
  go_ret
  have hb:=below_regrown w3 dq osq
  exact ⟨rfl,⟨(G.stand a r),⟨HE.out.1.below hb,HE.out.2.1.below hb,h.cd,h.vd,h.uc⟩⟩,HE.out.2.2.trans (Rf.Kept.of_below hb)⟩
set_option maxRecDepth 100000 in
set_option maxHeartbeats 2000000 in
theorem moves_foll (w:World) (c d:Nat) (v u:Value) (B:List Nat) (a:Nat) (h:Two w c d v u B a) (hB:Bn B) (i:Int) :
    Calls Tryz.prog 36 #[pv c,pv d,.agg #[.int .i64 5,.int .i64 i]] w fun e w'=>MvPost w c d v u B e w':=by
  obtain ⟨w1,hw1⟩:∃ w1,w1=w.alloc (.cells #[.int .i64 5,.int .i64 i] 82):=⟨_,rfl⟩
  have hb1:Below w.heap.size w w1:=by rw [hw1];exact (Below.refl _ _).alloc (Nat.le_refl _) _
  have hm:=heap_alloc_new w (.cells #[.int .i64 5,.int .i64 i] 82)
  rw [← hw1] at hm
  have m0:=Rf.cell_blk hm 0 (.int .i64 5) rfl
  have m1:=Rf.cell_blk hm 1 (.int .i64 i) rfl
  have hml:=lt_of_block hm
  have h1:=h.below hb1
  have hcw:=lt_of_block h.p.blk
  have hdw:=lt_of_block h.r.blk
  clear hm
  unfold MvPost
  go_enter Tryz.func36,Tryz.ntmps36
  go_wp2_with fail
  rw [← hw1]
  clear hw1
  refine (pfollow_any w1 c v B a h1.p hB i).mono ?_
  rintro e w2 ⟨r,hr,rfl,hp2,k2⟩
  have m1':=kept_cell k2 hml (by omega) m1
  have hr2:=Cu.kept h1.r k2 (fun e=>h.cd e.symm) h.uc
  clear m0 m1
  go_wp2_with fail
  refine (Rf.follow_any w2 d u B a hr2 hB i).mono ?_
  rintro e w3 ⟨r',hr',rfl,hr3,k3⟩
  obtain rfl:=hr.one hr'
  have hp3:=Cu.kept hp2 k3 h.cd h.vd
  have hK:Rf.Kept (fun k=>k ≠ c∧k ≠ d) w w3:=((Rf.Kept.of_below hb1).trans (k2.mono (fun _ _ e=>e.1))).trans (k3.mono (fun _ _ e=>e.2))
  clear m1' hr2 hp2 k2 k3 h1
  have hN:=cur_grown hp3
  have q1:∀ d' os,(Sort.grow (redrawn w3 d') os).cell? ⟨d,1,none⟩=some (.int .i64 ((G.stand a r):Int)):=fun d' os=>cell_regrown (Rf.cell_blk hr3.blk 1 _ rfl) d' os
  have HE:Hid _:=And.intro hp3 (And.intro hr3 hK)
  clear hp3 hr3 hK
  generalize hat:(((G.stand a r):Nat):Int)=at' at hN q1
  clear hat
  go_wp2_with fail
  refine wp_region_quiet_below (by kernel_rfl) (by kernel_rfl) ?_
  repeat (first | go_big_quiet_step (exact hN _ _) | quiet_step (exact hN _ _))
  refine wpQuiet_nil ?_
  intro _ hw'
  obtain ⟨⟨dq,osq⟩,hw''⟩:=hw'
  subst hw''
  go_wp2
  go_ret
  have hb:=below_regrown w3 dq osq
  exact ⟨rfl,⟨(G.stand a r),⟨HE.out.1.below hb,HE.out.2.1.below hb,h.cd,h.vd,h.uc⟩⟩,HE.out.2.2.trans (Rf.Kept.of_below hb)⟩
set_option maxRecDepth 100000 in
set_option maxHeartbeats 2000000 in
theorem moves_prec (w:World) (c d:Nat) (v u:Value) (B:List Nat) (a:Nat) (h:Two w c d v u B a) (hB:Bn B) (i:Int) :
    Calls Tryz.prog 36 #[pv c,pv d,.agg #[.int .i64 6,.int .i64 i]] w fun e w'=>MvPost w c d v u B e w':=by
  obtain ⟨w1,hw1⟩:∃ w1,w1=w.alloc (.cells #[.int .i64 6,.int .i64 i] 82):=⟨_,rfl⟩
  have hb1:Below w.heap.size w w1:=by rw [hw1];exact (Below.refl _ _).alloc (Nat.le_refl _) _
  have hm:=heap_alloc_new w (.cells #[.int .i64 6,.int .i64 i] 82)
  rw [← hw1] at hm
  have m0:=Rf.cell_blk hm 0 (.int .i64 6) rfl
  have m1:=Rf.cell_blk hm 1 (.int .i64 i) rfl
  have hml:=lt_of_block hm
  have h1:=h.below hb1
  have hcw:=lt_of_block h.p.blk
  have hdw:=lt_of_block h.r.blk
  clear hm
  unfold MvPost
  go_enter Tryz.func36,Tryz.ntmps36
  go_wp2_with fail
  rw [← hw1]
  clear hw1
  refine (ppreced_any w1 c v B a h1.p hB i).mono ?_
  rintro e w2 ⟨r,hr,rfl,hp2,k2⟩
  have m1':=kept_cell k2 hml (by omega) m1
  have hr2:=Cu.kept h1.r k2 (fun e=>h.cd e.symm) h.uc
  clear m0 m1
  go_wp2_with fail
  refine (Rf.preced_any w2 d u B a hr2 hB i).mono ?_
  rintro e w3 ⟨r',hr',rfl,hr3,k3⟩
  obtain rfl:=hr.one hr'
  have hp3:=Cu.kept hp2 k3 h.cd h.vd
  have hK:Rf.Kept (fun k=>k ≠ c∧k ≠ d) w w3:=((Rf.Kept.of_below hb1).trans (k2.mono (fun _ _ e=>e.1))).trans (k3.mono (fun _ _ e=>e.2))
  clear m1' hr2 hp2 k2 k3 h1
  have hN:=cur_grown hp3
  have q1:∀ d' os,(Sort.grow (redrawn w3 d') os).cell? ⟨d,1,none⟩=some (.int .i64 ((G.stand a r):Int)):=fun d' os=>cell_regrown (Rf.cell_blk hr3.blk 1 _ rfl) d' os
  have HE:Hid _:=And.intro hp3 (And.intro hr3 hK)
  clear hp3 hr3 hK
  generalize hat:(((G.stand a r):Nat):Int)=at' at hN q1
  clear hat
  go_wp2_with fail
  refine wp_region_quiet_below (by kernel_rfl) (by kernel_rfl) ?_
  repeat (first | go_big_quiet_step (exact hN _ _) | quiet_step (exact hN _ _))
  refine wpQuiet_nil ?_
  intro _ hw'
  obtain ⟨⟨dq,osq⟩,hw''⟩:=hw'
  subst hw''
  go_wp2
  go_ret
  have hb:=below_regrown w3 dq osq
  exact ⟨rfl,⟨(G.stand a r),⟨HE.out.1.below hb,HE.out.2.1.below hb,h.cd,h.vd,h.uc⟩⟩,HE.out.2.2.trans (Rf.Kept.of_below hb)⟩
set_option maxRecDepth 100000 in
set_option maxHeartbeats 2000000 in
theorem moves_isb (w:World) (c d:Nat) (v u:Value) (B:List Nat) (a:Nat) (h:Two w c d v u B a) (hB:Bn B) (i:Int) :
    Calls Tryz.prog 36 #[pv c,pv d,.agg #[.int .i64 7,.int .i64 i]] w fun e w'=>MvPost w c d v u B e w':=by
  obtain ⟨w1,hw1⟩:∃ w1,w1=w.alloc (.cells #[.int .i64 7,.int .i64 i] 82):=⟨_,rfl⟩
  have hb1:Below w.heap.size w w1:=by rw [hw1];exact (Below.refl _ _).alloc (Nat.le_refl _) _
  have hm:=heap_alloc_new w (.cells #[.int .i64 7,.int .i64 i] 82)
  rw [← hw1] at hm
  have m0:=Rf.cell_blk hm 0 (.int .i64 7) rfl
  have m1:=Rf.cell_blk hm 1 (.int .i64 i) rfl
  have hml:=lt_of_block hm
  have h1:=h.below hb1
  have hcw:=lt_of_block h.p.blk
  have hdw:=lt_of_block h.r.blk
  clear hm
  unfold MvPost
  have hpi:=pisB_any w1 c v B a h1.p hB i
  have hri:=Rf.isB_any w1 d u B a h1.r hB i
  have hp3:=h1.p
  have hr3:=h1.r
  have hK:Rf.Kept (fun k=>k ≠ c∧k ≠ d) w w1:=Rf.Kept.of_below hb1
  generalize Cs.isB B i=bb at hpi hri
  go_enter Tryz.func36,Tryz.ntmps36
  go_wp2_with fail
  rw [← hw1]
  clear hw1
  refine hpi.mono ?_
  rintro e w2 ⟨rfl,rfl⟩
  go_wp2_with fail
  refine hri.mono ?_
  rintro e w3 ⟨rfl,rfl⟩
  clear m0 m1 hpi hri h1
  cases bb
  · have hN:=cur_grown hp3
    have q1:∀ d' os,(Sort.grow (redrawn w3 d') os).cell? ⟨d,1,none⟩=some (.int .i64 (a:Int)):=fun d' os=>cell_regrown (Rf.cell_blk hr3.blk 1 _ rfl) d' os
    have HE:Hid _:=And.intro hp3 (And.intro hr3 hK)
    clear hp3 hr3 hK
    generalize hat:((a:Nat):Int)=at' at hN q1
    clear hat
    go_wp2_with fail
    refine wp_region_quiet_below (by kernel_rfl) (by kernel_rfl) ?_
    repeat (first | go_big_quiet_step (exact hN _ _) | quiet_step (exact hN _ _))
    refine wpQuiet_nil ?_
    intro _ hw'
    obtain ⟨⟨dq,osq⟩,hw''⟩:=hw'
    subst hw''
    go_wp2
    go_ret
    have hb:=below_regrown w3 dq osq
    exact ⟨rfl,⟨a,⟨HE.out.1.below hb,HE.out.2.1.below hb,h.cd,h.vd,h.uc⟩⟩,HE.out.2.2.trans (Rf.Kept.of_below hb)⟩
  · have hN:=cur_grown hp3
    have q1:∀ d' os,(Sort.grow (redrawn w3 d') os).cell? ⟨d,1,none⟩=some (.int .i64 (a:Int)):=fun d' os=>cell_regrown (Rf.cell_blk hr3.blk 1 _ rfl) d' os
    have HE:Hid _:=And.intro hp3 (And.intro hr3 hK)
    clear hp3 hr3 hK
    generalize hat:((a:Nat):Int)=at' at hN q1
    clear hat
    go_wp2_with fail
    refine wp_region_quiet_below (by kernel_rfl) (by kernel_rfl) ?_
    repeat (first | go_big_quiet_step (exact hN _ _) | quiet_step (exact hN _ _))
    refine wpQuiet_nil ?_
    intro _ hw'
    obtain ⟨⟨dq,osq⟩,hw''⟩:=hw'
    subst hw''
    go_wp2
    go_ret
    have hb:=below_regrown w3 dq osq
    exact ⟨rfl,⟨a,⟨HE.out.1.below hb,HE.out.2.1.below hb,h.cd,h.vd,h.uc⟩⟩,HE.out.2.2.trans (Rf.Kept.of_below hb)⟩
set_option maxRecDepth 100000 in
set_option maxHeartbeats 2000000 in
theorem moves_else (w:World) (c d:Nat) (v u:Value) (B:List Nat) (a:Nat) (h:Two w c d v u B a) (_hB:Bn B) (kd:Int) (i:Int) (k1:kd ≠ 1) (k2:kd ≠ 2) (k3:kd ≠ 3) (k4:kd ≠ 4) (k5:kd ≠ 5) (k6:kd ≠ 6) (k7:kd ≠ 7) :
    Calls Tryz.prog 36 #[pv c,pv d,.agg #[.int .i64 kd,.int .i64 i]] w fun e w'=>MvPost w c d v u B e w':=by
  obtain ⟨w1,hw1⟩:∃ w1,w1=w.alloc (.cells #[.int .i64 kd,.int .i64 i] 82):=⟨_,rfl⟩
  have hb1:Below w.heap.size w w1:=by rw [hw1];exact (Below.refl _ _).alloc (Nat.le_refl _) _
  have hm:=heap_alloc_new w (.cells #[.int .i64 kd,.int .i64 i] 82)
  rw [← hw1] at hm
  have m0:=Rf.cell_blk hm 0 (.int .i64 kd) rfl
  have m1:=Rf.cell_blk hm 1 (.int .i64 i) rfl
  have hml:=lt_of_block hm
  have h1:=h.below hb1
  have hcw:=lt_of_block h.p.blk
  have hdw:=lt_of_block h.r.blk
  clear hm
  unfold MvPost
  have b1:(kd == 1)=false:=by simpa using k1
  have b2:(kd == 2)=false:=by simpa using k2
  have b3:(kd == 3)=false:=by simpa using k3
  have b4:(kd == 4)=false:=by simpa using k4
  have b5:(kd == 5)=false:=by simpa using k5
  have b6:(kd == 6)=false:=by simpa using k6
  have b7:(kd == 7)=false:=by simpa using k7
  clear k1 k2 k3 k4 k5 k6 k7
  obtain ⟨w3,hw3⟩:∃ w3,w3=w1:=⟨_,rfl⟩
  rw [← hw3] at hw1
  have hp3:=h1.p
  have hr3:=h1.r
  have hK:Rf.Kept (fun k=>k ≠ c∧k ≠ d) w w1:=Rf.Kept.of_below hb1
  rw [← hw3] at hp3 hr3 hK m0 m1
  clear h1 hw3
  go_enter Tryz.func36,Tryz.ntmps36
  go_wp2_with fail
  rw [← hw1]
  clear hw1
  have hN:=cur_grown hp3
  have q1:∀ d' os,(Sort.grow (redrawn w3 d') os).cell? ⟨d,1,none⟩=some (.int .i64 (a:Int)):=fun d' os=>cell_regrown (Rf.cell_blk hr3.blk 1 _ rfl) d' os
  have HE:Hid _:=And.intro hp3 (And.intro hr3 hK)
  clear hp3 hr3 hK
  generalize hat:((a:Nat):Int)=at' at hN q1
  clear hat
  refine wp_region_quiet_below (by kernel_rfl) (by kernel_rfl) ?_
  repeat (first | go_big_quiet_step (exact hN _ _) | quiet_step (exact hN _ _))
  refine wpQuiet_nil ?_
  intro _ hw'
  obtain ⟨⟨dq,osq⟩,hw''⟩:=hw'
  subst hw''
  go_wp2
  go_ret
  have hb:=below_regrown w3 dq osq
  exact ⟨rfl,⟨a,⟨HE.out.1.below hb,HE.out.2.1.below hb,h.cd,h.vd,h.uc⟩⟩,HE.out.2.2.trans (Rf.Kept.of_below hb)⟩
theorem moves_any (w:World) (c d:Nat) (v u:Value) (B:List Nat) (a:Nat) (h:Two w c d v u B a) (hB:Bn B) (kd i:Int) :
    Calls Tryz.prog 36 #[pv c,pv d,.agg #[.int .i64 kd,.int .i64 i]] w fun e w'=>MvPost w c d v u B e w':=by
  by_cases k1:kd=1
  · subst k1;exact moves_first w c d v u B a h hB i
  by_cases k2:kd=2
  · subst k2;exact moves_last w c d v u B a h hB i
  by_cases k3:kd=3
  · subst k3;exact moves_next w c d v u B a h hB i
  by_cases k4:kd=4
  · subst k4;exact moves_prev w c d v u B a h hB i
  by_cases k5:kd=5
  · subst k5;exact moves_foll w c d v u B a h hB i
  by_cases k6:kd=6
  · subst k6;exact moves_prec w c d v u B a h hB i
  by_cases k7:kd=7
  · subst k7;exact moves_isb w c d v u B a h hB i
  exact moves_else w c d v u B a h hB kd i k1 k2 k3 k4 k5 k6 k7
end Pr
end Go.Proofs.YtpgcidpghmoibaaGreatDoor

namespace Go.Proofs.YtpgcidpghmoibaaGreatDoor
namespace Pr
open Go.RowKit
open G (PNode)
theorem eqSeg (a b c d e f:Int) (w:World):(Op.equalIn 10000 65 (.agg #[.int .i64 a,.int .i64 b,.int .i64 c]) (.agg #[.int .i64 d,.int .i64 e,.int .i64 f])).run Tryz.prog w=.ok (a == d && b == e && c == f) w:=by
  have u3:=Tryz.underlying3
  have a3:=Tryz.isAgg3
  have z3:=Tryz.sizeOf3
  have hS:Tryz.prog.underlying 65=some (.struct (Tryz.prog.fieldsOf 65)):=by kernel_rfl
  have hp:Tryz.prog.stoodInHeld 65=false:=by kernel_rfl
  rw [show (10000:Nat)=9999 + 1 from rfl,run_equalIn_agg w 9999 65 _ _ hS hp]
  simp only [Program.fieldsOf,Tryz.underlying65]
  go_simp
  by_cases h1:a=d <;> by_cases h2:b=e <;> by_cases h3:c=f <;> simp [h1,h2,h3]
theorem words_wf (w:World):G.WF G.wordsT∧∀ q ∈ [] ++ [G.wT3.length],q < G.wordsT.length:=by
  obtain ⟨e0,w0,_,⟨_,r0,hsrc0,hpost0⟩,_⟩:=Rf.comp_whole w G.wordsB (by decide) []
  have hr0:=G.words_src.det _ hsrc0
  subst hr0
  obtain ⟨hwf0,hq0,_⟩:=hpost0
  exact ⟨hwf0,hq0⟩
theorem words_comp (w:World) (hT:Tabs w):Calls Tryz.prog 13 #[.string ⟨#[91,97,45,122,93,43,59]⟩] w fun e w'=>(∃ b m I v V P f,e=.returned (.tuple #[pv b,.int .i64 0,.int .i64 0])∧PIn w' b m I v V G.wordsT ([] ++ [G.wT3.length]) P f)∧Below w.heap.size w w':=by
  obtain ⟨hwf,hq⟩:=words_wf w
  refine (pcomp_any w G.wordsB _ (by decide) hT G.words_src (fun _ _ e=>by cases e)).mono ?_
  rintro e w' ⟨hb,⟨hno,_⟩ | ⟨_,b,_,rfl,hp⟩⟩
  · rw [G.words_size] at hno
    simp at hno
  · obtain ⟨m,I,v,V,P,f,h⟩:=hp.pin hwf hq (by rw [G.len_flatMap,G.sizeOf_pls hwf _ hq (by rw [G.words_size];omega),G.words_size];omega)
    exact ⟨⟨b,m,I,v,V,P,f,rfl,h⟩,hb⟩
set_option maxRecDepth 100000 in
set_option maxHeartbeats 1000000 in
theorem sure_any (w:World) (hT:Tabs w):Calls Tryz.prog 20 #[] w fun e w'=>e=.returned (.bool true)∧Below w.heap.size w w':=by
  have hC:=words_comp w hT
  have hwf:=(words_wf w).1
  go_enter Tryz.func20,Tryz.ntmps20
  go_wp2_with (first
    | (go_at_call 37
       refine hM.mono ?_
       rintro e w2 ⟨⟨g,hg,rfl⟩,hb2⟩
       have hge:g=⟨0,2,0⟩:=(by
         obtain ⟨k,n,r,hu,hl,rfl⟩:=hg
         have hk:=G.ab1_unit hu
         subst hk
         rw [List.drop_zero,G.ab1_us] at hl
         obtain ⟨rfl,rfl⟩:=hl.one (G.ab1_long hwf)
         rw [G.ab1_e0,G.ab1_e2])
       subst hge
       have heq:=eqSeg 0 2 0 0 2 0)
    | (go_at_call 13
       refine hC.mono ?_
       rintro e w1 ⟨⟨b,m,I,v,V,P,f,rfl,hP⟩,hb1⟩
       have hM:=pmatch_short w1 b m I v V G.wordsT _ P f hP G.ab1 0 (by decide)))
  go_ret
  exact ⟨rfl,(hb1.trans (hb2.mono hb1.size)).alloc (by have:=hb1.size;have:=hb2.size;omega) _⟩
end Pr
end Go.Proofs.YtpgcidpghmoibaaGreatDoor

namespace Go.Proofs.YtpgcidpghmoibaaGreatDoor
namespace Pr
open Go.RowKit
open G (PNode)
structure RuP (w:World) (b:Nat) (T:List PNode) (Q:List Nat):Prop where
  pr:PRul w b T Q
  wf:G.WF T
  lt:∀ q ∈ Q,q < T.length
  few:Q.length≤50
  sz:G.sizeOf T Q≤100
theorem RuP.pin {w:World} {b:Nat} {T:List PNode} {Q:List Nat} (h:RuP w b T Q):∃ m I v V P f,PIn w b m I v V T Q P f:=
  h.pr.pin h.wf h.lt (by rw [G.len_flatMap,G.sizeOf_pls h.wf Q h.lt h.sz];exact h.sz)
def CompAll (w:World) (s:ByteArray) (e:Ending) (w':World):Prop:=
  Below w.heap.size w w'∧((∃ p c:Nat,c ≠ 0∧e=.returned (.tuple #[.pointer none,.int .i64 (p:Int),.int .i64 (c:Int)])) ∨
    ∃ b T Q,s.size≤2000∧G.Src s 0 [] [] [] (.ok Q T)∧w.heap.size≤b∧e=.returned (.tuple #[pv b,.int .i64 0,.int .i64 0])∧RuP w' b T Q)
theorem comp_all (w:World) (s:ByteArray) (hm:s.size≤maxLen) (hT:Tabs w):Calls Tryz.prog 13 #[.string s] w fun e w'=>CompAll w s e w':=by
  by_cases hs:2000 < s.size
  · refine (pcomp_long w s hs hm).mono ?_
    rintro e w' ⟨rfl,rfl⟩
    exact ⟨Below.refl _ _,.inl ⟨0,1,by omega,rfl⟩⟩
  · have hs2:s.size≤2000:=by omega
    obtain ⟨e0,w0,_,⟨_,r,hsrc,hpost⟩,_⟩:=Rf.comp_whole w s hs2 []
    cases r with
    | err c p =>
      obtain ⟨hc,_⟩:=hpost
      refine (pcomp_any w s (.err c p) hs2 hT hsrc (fun c' p' e=>by cases e;exact hc)).mono ?_
      rintro e w' ⟨hb,rfl⟩
      exact ⟨hb,.inl ⟨p,c,hc,rfl⟩⟩
    | ok Q T =>
      obtain ⟨hwf,hq,_⟩:=hpost
      refine (pcomp_any w s (.ok Q T) hs2 hT hsrc (fun c' p' e=>by cases e)).mono ?_
      rintro e w' ⟨hb,⟨_,rfl⟩ | ⟨⟨h1,h2⟩,b,hbl,rfl,hpr⟩⟩
      · exact ⟨hb,.inl ⟨0,6,by omega,rfl⟩⟩
      · exact ⟨hb,.inr ⟨b,T,Q,hs2,hsrc,hbl,rfl,⟨hpr,hwf,hq,h1,h2⟩⟩⟩
theorem comp_ok (w:World) (s:ByteArray) (T:List PNode) (Q:List Nat) (hs:s.size≤2000) (hsrc:G.Src s 0 [] [] [] (.ok Q T)) (h1:Q.length≤50) (h2:G.sizeOf T Q≤100) (hT:Tabs w) :
    Calls Tryz.prog 13 #[.string s] w fun e w'=>Below w.heap.size w w'∧∃ b,w.heap.size≤b∧e=.returned (.tuple #[pv b,.int .i64 0,.int .i64 0])∧RuP w' b T Q:=by
  obtain ⟨e0,w0,_,⟨_,r,hsrc',hpost⟩,_⟩:=Rf.comp_whole w s hs []
  obtain rfl:=hsrc.det _ hsrc'
  obtain ⟨hwf,hq,_⟩:=hpost
  refine (pcomp_any w s (.ok Q T) hs hT hsrc (fun c' p' e=>by cases e)).mono ?_
  rintro e w' ⟨hb,⟨h3,rfl⟩ | ⟨_,b,hbl,rfl,hpr⟩⟩
  · omega
  · exact ⟨hb,b,hbl,rfl,⟨hpr,hwf,hq,h1,h2⟩⟩
set_option maxRecDepth 100000 in
theorem pack_any (w:World) (b:Nat) (T:List PNode) (Q:List Nat) (h:PRul w b T Q):Calls Tryz.prog 46 #[pv b] w fun e w'=>(∃ s,s.size≤2000∧G.Src s 0 [] [] [] (.ok Q T)∧e=.returned (.string s))∧w'=w:=by
  obtain ⟨I,m,v,V,h1,h2,h3⟩:=h.ex
  obtain ⟨s,hs,hsrc,hblk⟩:=h1.ex
  have c0:=Rf.cell_blk hblk 0 (.string s) rfl
  go_enter Tryz.func46,Tryz.ntmps46
  go_wp2
  go_ret
  exact ⟨⟨s,hs,hsrc,rfl⟩,rfl⟩
def LoadAll (w:World) (s:ByteArray) (e:Ending) (w':World):Prop:=
  Below w.heap.size w w'∧(e=.returned (.tuple #[.pointer none,.int .i64 7]) ∨
    ∃ b T Q,s.size≤2000∧G.Src s 0 [] [] [] (.ok Q T)∧w.heap.size≤b∧e=.returned (.tuple #[pv b,.int .i64 0])∧RuP w' b T Q)
set_option maxRecDepth 100000 in
theorem load_all (w:World) (s:ByteArray) (hm:s.size≤maxLen) (hT:Tabs w):Calls Tryz.prog 45 #[.string s] w fun e w'=>LoadAll w s e w':=by
  go_enter Tryz.func45,Tryz.ntmps45
  go_wp2_with fail
  refine (comp_all w s hm hT).mono ?_
  rintro e w1 ⟨hb,⟨p,c,hc,rfl⟩ | ⟨b,T,Q,hs,hsrc,hbl,rfl,hr⟩⟩
  · have hcb:((c:Int) != 0)=true:=by simp;omega
    go_wp2
    go_ret2
    exact ⟨hb,.inl rfl⟩
  · go_wp2
    go_ret2
    exact ⟨hb,.inr ⟨b,T,Q,hs,hsrc,hbl,rfl,hr⟩⟩
set_option maxRecDepth 100000 in
theorem load_ok (w:World) (s:ByteArray) (T:List PNode) (Q:List Nat) (hs:s.size≤2000) (hsrc:G.Src s 0 [] [] [] (.ok Q T)) (h1:Q.length≤50) (h2:G.sizeOf T Q≤100) (hT:Tabs w) :
    Calls Tryz.prog 45 #[.string s] w fun e w'=>Below w.heap.size w w'∧∃ b,w.heap.size≤b∧e=.returned (.tuple #[pv b,.int .i64 0])∧RuP w' b T Q:=by
  go_enter Tryz.func45,Tryz.ntmps45
  go_wp2_with fail
  refine (comp_ok w s T Q hs hsrc h1 h2 hT).mono ?_
  rintro e w1 ⟨hb,b,hbl,rfl,hr⟩
  go_wp2
  go_ret2
  exact ⟨hb,b,hbl,rfl,hr⟩
end Pr
end Go.Proofs.YtpgcidpghmoibaaGreatDoor
