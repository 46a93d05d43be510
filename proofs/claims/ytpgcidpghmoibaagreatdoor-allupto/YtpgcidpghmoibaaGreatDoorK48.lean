/-
  RULES OF BOTH SIDES that stand while a book is written; what Match and
  THE WALK of the book's matches
  THE LAW Compiles
  THE WALK of the world's asks
-/
import Derived.Test.YtpgcidpghmoibaaGreatDoorK25
import Derived.Test.YtpgcidpghmoibaaGreatDoorK46
import Derived.Test.YtpgcidpghmoibaaGreatDoorK26
import Derived.Deep.QuietTactic
import Derived.BigQuiet
import Derived.Test.YtpgcidpghmoibaaGreatDoorK41
import Derived.Test.YtpgcidpghmoibaaGreatDoorK47
import Derived.StillTailTactics
namespace Go.Proofs.YtpgcidpghmoibaaGreatDoor
namespace Pr
open Go.RowKit
open G (PNode)
open Rf (PState)
structure Ask (w:World) (b q:Nat) (T:List PNode) (Q:List Nat):Prop where
  p:∃ m I v V P f,PIn w b m I v V T Q P f
  r:∃ L B F J,Rf.RIn w q T Q L B F J
theorem Ask.below {w w':World} {b q:Nat} {T:List PNode} {Q:List Nat} (h:Ask w b q T Q) (hb:Below w.heap.size w w'):Ask w' b q T Q:=by
  obtain ⟨⟨m,I,v,V,P,f,hp⟩,⟨L,B,F,J,hr⟩⟩:=h
  exact ⟨⟨m,I,v,V,P,f,hp.below hb⟩,⟨L,B,F,J,hr.below hb⟩⟩
def MOut (T:List PNode) (Q:List Nat) (s:ByteArray) (a:Int) (x y z n:Int):Prop:=
  (1000 < s.size∧x=0∧y=0∧z=0∧n=1) ∨ (s.size≤1000∧(∃ g:G.Seg,Rf.MatchV T Q s a g∧x=(g.f:Int)∧y=(g.t:Int)∧z=g.r)∧n=0)
theorem MOut.one {T:List PNode} {Q:List Nat} {s:ByteArray} {a x y z n x' y' z' n':Int} (h:MOut T Q s a x y z n) (g:MOut T Q s a x' y' z' n'):x'=x∧y'=y∧z'=z∧n'=n:=by
  rcases h with ⟨h0,rfl,rfl,rfl,rfl⟩ | ⟨h0,⟨g1,⟨k,m,r,u1,u2,rfl⟩,rfl,rfl,rfl⟩,rfl⟩
  · rcases g with ⟨_,rfl,rfl,rfl,rfl⟩ | ⟨g0,_⟩
    · exact ⟨rfl,rfl,rfl,rfl⟩
    · omega
  · rcases g with ⟨g0,_⟩ | ⟨_,⟨g2,⟨k',m',r',v1,v2,rfl⟩,rfl,rfl,rfl⟩,rfl⟩
    · omega
    · obtain rfl:=u1.one v1
      obtain ⟨rfl,rfl⟩:=u2.one v2
      exact ⟨rfl,rfl,rfl,rfl⟩
def COut (T:List PNode) (Q:List Nat) (s:ByteArray) (l:List G.Seg) (n:Int):Prop:=
  (1000 < s.size∧l=[]∧n=1) ∨ (s.size≤1000∧G.CutR T Q s 0 l∧n=0)
theorem COut.one {T:List PNode} {Q:List Nat} {s:ByteArray} {l l':List G.Seg} {n n':Int} (h:COut T Q s l n) (g:COut T Q s l' n'):l'=l∧n'=n:=by
  rcases h with ⟨h0,rfl,rfl⟩ | ⟨h0,h1,rfl⟩
  · rcases g with ⟨_,rfl,rfl⟩ | ⟨g0,_⟩
    · exact ⟨rfl,rfl⟩
    · omega
  · rcases g with ⟨g0,_⟩ | ⟨_,g1,rfl⟩
    · omega
    · exact ⟨(h1.one g1).symm,rfl⟩
theorem pm_all {w:World} {b q:Nat} {T:List PNode} {Q:List Nat} (h:Ask w b q T Q) (s:ByteArray) (a:Int) (hm:s.size≤maxLen) :
    Calls Tryz.prog 37 #[pv b,.string s,.int .i64 a] w fun e w'=>(∃ x y z n,e=.returned (.tuple #[.agg #[.int .i64 x,.int .i64 y,.int .i64 z],.int .i64 n])∧MOut T Q s a x y z n)∧Below w.heap.size w w':=by
  by_cases hs:1000 < s.size
  · refine (pmatch_long w b s a hs hm).mono ?_
    rintro e w' ⟨rfl,hb⟩
    exact ⟨⟨_,_,_,_,rfl,.inl ⟨hs,rfl,rfl,rfl,rfl⟩⟩,hb⟩
  · obtain ⟨m,I,v,V,P,f,hp⟩:=h.p
    refine (pmatch_short w b m I v V T Q P f hp s a (by omega)).mono ?_
    rintro e w' ⟨⟨g,hg,rfl⟩,hb⟩
    exact ⟨⟨_,_,_,_,rfl,.inr ⟨by omega,⟨g,hg,rfl,rfl,rfl⟩,rfl⟩⟩,hb⟩
theorem rm_all {w:World} {b q:Nat} {T:List PNode} {Q:List Nat} (h:Ask w b q T Q) (s:ByteArray) (a:Int) (hm:s.size≤maxLen) :
    Calls Tryz.prog 57 #[pv q,.string s,.int .i64 a] w fun e w'=>(∃ x y z n,e=.returned (.tuple #[.agg #[.int .i64 x,.int .i64 y,.int .i64 z],.int .i64 n])∧MOut T Q s a x y z n)∧Below w.heap.size w w':=by
  by_cases hs:1000 < s.size
  · refine (Rf.rmatch_long w q s a hs hm).mono ?_
    rintro e w' ⟨rfl,hb⟩
    exact ⟨⟨_,_,_,_,rfl,.inl ⟨hs,rfl,rfl,rfl,rfl⟩⟩,hb⟩
  · obtain ⟨L,B,F,J,hr⟩:=h.r
    refine (Rf.rmatch_short w q T Q L B F J hr s a (by omega)).mono ?_
    rintro e w' ⟨⟨g,hg,rfl⟩,hb⟩
    exact ⟨⟨_,_,_,_,rfl,.inr ⟨by omega,⟨g,hg,rfl,rfl,rfl⟩,rfl⟩⟩,hb⟩
theorem pc_all {w:World} {b q:Nat} {T:List PNode} {Q:List Nat} (h:Ask w b q T Q) (s:ByteArray) (hm:s.size≤maxLen) :
    Calls Tryz.prog 27 #[pv b,.string s] w fun e w'=>(∃ vo l n,e=.returned (.tuple #[vo,.int .i64 n])∧COut T Q s l n∧w'.ownsRow w.heap.size 65 3 vo l.length (Rf.segs l))∧Below w.heap.size w w':=by
  by_cases hs:1000 < s.size
  · refine (pcut_long w b s hs hm).mono ?_
    rintro e w' ⟨rfl,rfl⟩
    exact ⟨⟨_,[],_,rfl,.inl ⟨hs,rfl,rfl⟩,World.ownsRow_nil _ _ _ _⟩,Below.refl _ _⟩
  · obtain ⟨m,I,v,V,P,f,hp⟩:=h.p
    refine (pcut_short w b m I v V T Q P f hp s (by omega)).mono ?_
    rintro e w' ⟨⟨vo,l,rfl,hc,ho⟩,hb⟩
    exact ⟨⟨_,l,_,rfl,.inr ⟨by omega,hc,rfl⟩,ho⟩,hb⟩
theorem rc_all {w:World} {b q:Nat} {T:List PNode} {Q:List Nat} (h:Ask w b q T Q) (s:ByteArray) (hm:s.size≤maxLen) :
    Calls Tryz.prog 58 #[pv q,.string s] w fun e w'=>(∃ vo l n,e=.returned (.tuple #[vo,.int .i64 n])∧COut T Q s l n∧w'.ownsRow w.heap.size 65 3 vo l.length (Rf.segs l))∧Below w.heap.size w w':=by
  by_cases hs:1000 < s.size
  · refine (Rf.rcut_long w q s hs hm).mono ?_
    rintro e w' ⟨rfl,rfl⟩
    exact ⟨⟨_,[],_,rfl,.inl ⟨hs,rfl,rfl⟩,World.ownsRow_nil _ _ _ _⟩,Below.refl _ _⟩
  · obtain ⟨L,B,F,J,hr⟩:=h.r
    refine (Rf.rcut_short w q T Q L B F J hr s (by omega)).mono ?_
    rintro e w' ⟨⟨vo,l,rfl,hc,ho⟩,hb⟩
    exact ⟨⟨_,l,_,rfl,.inr ⟨by omega,hc,rfl⟩,ho⟩,hb⟩
theorem blk_ne {w:World} {b x:Nat} {t u:TypeId} {cs ds:Array Value} (h:w.heap[b]?=some (.cells cs t (0,0))) (hx:w.heap[x]?=some (.cells ds u (0,0))) (ht:t ≠ u):b ≠ x:=by
  rintro rfl
  rw [h] at hx
  simp only [Option.some.injEq,Obj.cells.injEq] at hx
  exact ht hx.2.1
end Pr
end Go.Proofs.YtpgcidpghmoibaaGreatDoor

namespace Go.Proofs.YtpgcidpghmoibaaGreatDoor
namespace Pr
open Go.RowKit
open G (PNode)
theorem cut_few {T:List PNode} {Q:List Nat} {s:ByteArray} {k:Nat} {l:List G.Seg} (h:G.CutR T Q s k l):l.length + k≤(G.us s).length:=by
  induction h with
  | done h=>simp [h]
  | cons h1 h2 h3 ih =>
    simp only [List.length_cons]
    omega
theorem seg_cells {w:World} {la:Option Addr} {n lc:Nat} {l:List G.Seg} (h:w.ownsRow 0 65 3 (.slice la n lc) n (Rf.segs l)) {k:Nat} {x:G.Seg} (hx:l[k]?=some x) (hk:k < n) :
    ∃ g,la=some ⟨g,0,none⟩∧∀ wr,Below w.heap.size w wr→wr.cell? ⟨g,k * 3,none⟩=some (.int .i64 (x.f:Int))∧wr.cell? ⟨g,k * 3 + 1,none⟩=some (.int .i64 (x.t:Int))∧wr.cell? ⟨g,k * 3 + 2,none⟩=some (.int .i64 x.r):=by
  obtain ⟨g,cap,hv,_,hlt⟩:=h.form (by omega)
  simp only [Value.slice.injEq] at hv
  obtain ⟨rfl,_,rfl⟩:=hv
  refine ⟨g,rfl,fun wr hb=>?_⟩
  have key:∀ o u,o < 3→(Rf.scell3 x)[o]?=some u→wr.cell? ⟨g,k * 3 + o,none⟩=some u:=by
    intro o u ho hu
    rw [hb.cell (p:=⟨g,k * 3 + o,none⟩) hlt,h.cellAt _ (by omega)]
    rw [← hu]
    exact Rf.flat_get Rf.scell3 3 (fun _=>rfl) l k o x hx ho
  exact ⟨key 0 _ (by omega) rfl,key 1 _ (by omega) rfl,key 2 _ (by omega) rfl⟩
set_option maxRecDepth 100000 in
set_option maxHeartbeats 2000000 in
theorem matches_w (w:World) (b q:Nat) (T:List PNode) (Q:List Nat) (x:Nat) (S:Nat→Prop) (hA:Ask w b q T Q) (c:Nat) (hB:Book w x S c) (hc:c≤99999990) (s:ByteArray) (a:Int) (hm:s.size≤maxLen) :
    Calls Tryz.prog 21 #[pv x,pv b,pv q,.string s,.int .i64 a] w fun e w'=>e=.returned (.bool true)∧Book w' x (fun k=>S k ∨ w.heap.size≤k) (c + 2)∧Kept (fun k=>¬ S k) w w':=by
  have HB0:Hid (Book w x (fun k=>S k∧k < w.heap.size) c):=hB.mono (fun k hk h=>⟨h,hk⟩)
  have HA0:Hid (Ask w b q T Q):=hA
  clear hB hA
  go_enter Tryz.func21,Tryz.ntmps21
  go_wp2_with fail
  refine (pm_all HA0.out s a hm).mono ?_
  rintro e w1 ⟨⟨x1,x2,x3,n1,rfl,m1⟩,hb1⟩
  have HA1:Hid (Ask w1 b q T Q):=HA0.out.below hb1
  have HB1:Hid (Book w1 x (fun k=>S k∧k < w.heap.size) c):=HB0.out.below hb1
  have HM1:Hid (MOut T Q s a x1 x2 x3 n1):=m1
  clear m1
  have z1:=hb1.size
  have HX1:Hid _:=heap_alloc_new w1 (.cells #[.int .i64 x1,.int .i64 x2,.int .i64 x3] 65)
  go_wp2_with fail
  refine (rm_all (HA1.out.below ((Below.refl _ _).alloc (Nat.le_refl _) _)) s a hm).mono ?_
  rintro e w2 ⟨⟨y1,y2,y3,n2,rfl,m2⟩,hb2⟩
  obtain ⟨rfl,rfl,rfl,rfl⟩:=HM1.out.one m2
  have hbA:Below w1.heap.size w1 (w1.alloc (.cells #[.int .i64 y1,.int .i64 y2,.int .i64 y3] 65)):=(Below.refl _ _).alloc (Nat.le_refl _) _
  have hb2':Below w1.heap.size w1 w2:=hbA.trans (hb2.mono hbA.size)
  have HA2:Hid (Ask w2 b q T Q):=HA1.out.below hb2'
  have HB2:Hid (Book w2 x (fun k=>S k∧k < w.heap.size) c):=HB1.out.below hb2'
  have zx:w1.heap.size < w2.heap.size:=by have:=hb2.size;simp at this;omega
  have hx2:=(hb2.block w1.heap.size (by simp)).trans HX1.out
  have f0:=cell_blk hx2 0 (.int .i64 y1) rfl
  have f1:=cell_blk hx2 1 (.int .i64 y2) rfl
  have f2:=cell_blk hx2 2 (.int .i64 y3) rfl
  have heq:∀ W:World,(Op.equalIn 10000 65 (.agg #[.int .i64 y1,.int .i64 y2,.int .i64 y3]) (.agg #[.int .i64 y1,.int .i64 y2,.int .i64 y3])).run Tryz.prog W=.ok true W:=fun W=>by rw [eqSeg];simp
  clear m2 HX1 hx2 HA0 HB0 HA1 HB1 HM1
  go_wp2_with (go_at_call 35;refine (lnum_any _ _).mono ?_;rintro e w9 ⟨rfl,rfl⟩)
  have hbC:Below w2.heap.size w2 (w2.alloc (.cells #[.int .i64 y1,.int .i64 y2,.int .i64 y3] 65)):=(Below.refl _ _).alloc (Nat.le_refl _) _
  have HA3:Hid (Ask (w2.alloc (.cells #[.int .i64 y1,.int .i64 y2,.int .i64 y3] 65)) b q T Q):=HA2.out.below hbC
  have HB3:Hid (Book (w2.alloc (.cells #[.int .i64 y1,.int .i64 y2,.int .i64 y3] 65)) x (fun k=>S k∧k < w.heap.size) c):=HB2.out.below hbC
  have hb3:Below w.heap.size w (w2.alloc (.cells #[.int .i64 y1,.int .i64 y2,.int .i64 y3] 65)):=(hb1.trans (hb2'.mono z1)).trans (hbC.mono (by omega))
  generalize w2.alloc (.cells #[.int .i64 y1,.int .i64 y2,.int .i64 y3] 65)=w3 at HA3 HB3 hb3 ⊢
  clear f0 f1 f2 heq zx hbC hb2 hbA hb2' HA2 HB2 z1 hb1
  have z3:=hb3.size
  refine (pc_all HA3.out s hm).mono ?_
  rintro e w4 ⟨⟨v4,l,n4,rfl,c4,o4⟩,hb4⟩
  have z4:=hb4.size
  have HA4:Hid (Ask w4 b q T Q):=HA3.out.below hb4
  have HB4:Hid (Book w4 x (fun k=>S k∧k < w.heap.size) c):=HB3.out.below hb4
  go_wp2_with fail
  refine (pc_all HA4.out s hm).mono ?_
  rintro e w5 ⟨⟨v5,l5,n5,rfl,c5,o5⟩,hb5⟩
  obtain ⟨rfl,rfl⟩:=c4.one c5
  have z5:=hb5.size
  have HA5:Hid (Ask w5 b q T Q):=HA4.out.below hb5
  have HB5:Hid (Book w5 x (fun k=>S k∧k < w.heap.size) c):=HB4.out.below hb5
  go_wp2_with fail
  refine (rc_all HA5.out s hm).mono ?_
  rintro e w6 ⟨⟨v6,l6,n6,rfl,c6,o6⟩,hb6⟩
  obtain ⟨rfl,rfl⟩:=c4.one c6
  have z6:=hb6.size
  have HB6:Hid (Book w6 x (fun k=>S k∧k < w.heap.size) c):=HB5.out.below hb6
  have q4:∀ k,v4.ownBlock=some k→w.heap.size≤k∧k < w4.heap.size:=fun k e=>by have:=o4.lt k e;omega
  have q5:∀ k,v5.ownBlock=some k→w4.heap.size≤k∧k < w5.heap.size:=fun k e=>by have:=o5.lt k e;omega
  have o4:=own_belowAll (own_belowAll (own_zero o4) hb5) hb6
  have o5:=own_belowAll (own_zero o5) hb6
  have o6:=own_zero o6
  have hb36:Below w.heap.size w w6:=((hb3.trans (hb4.mono z3)).trans (hb5.mono (by omega))).trans (hb6.mono (by omega))
  have hlm:l6.length≤1000:=by
    rcases c4 with ⟨_,rfl,_⟩ | ⟨h1,h2,_⟩
    · simp
    · have:=cut_few h2;have:=U.units_length s;rw [G.us_len] at *;omega
  obtain ⟨a4,d4,rfl⟩:=own_len' o4
  obtain ⟨a5,d5,rfl⟩:=own_len' o5
  obtain ⟨a6,d6,rfl⟩:=own_len' o6
  obtain ⟨n,hn⟩:∃ n,l6.length=n:=⟨_,rfl⟩
  rw [hn] at o4 o5 o6 q4 q5 hlm ⊢
  have HN:Hid (l6.length=n):=hn
  have HO:Hid (w6.ownsRow 0 65 3 (.slice a4 n d4) n (Rf.segs l6)∧w6.ownsRow 0 65 3 (.slice a5 n d5) n (Rf.segs l6)∧w6.ownsRow 0 65 3 (.slice a6 n d6) n (Rf.segs l6)):=⟨o4,o5,o6⟩
  have HQ4:Hid _:=q4
  have HQ5:Hid _:=q5
  clear c4 c5 c6 hn o4 o5 o6 q4 q5 HA3 HA4 HA5 HB3 HB4 HB5 hb4 hb5 hb6 hb3
  go_wp2_with (go_at_call 35;refine (lnum_any _ _).mono ?_;rintro e w9 ⟨rfl,rfl⟩)
  go_loopw [19,20] (fun sm i wr=>∃ k:Nat,k≤n∧sm=.bool true∧i=.int .i64 k∧Below w9.heap.size w9 wr) (fun _ i _=>n - (intOf i).toNat)
  case atStart=>exact ⟨0,Nat.zero_le _,rfl,rfl,Below.refl _ _⟩
  case round =>
    obtain ⟨k,hk,rfl,rfl,hbr⟩:=hrel
    by_cases hlt:k < n
    · have hkL:k < l6.length:=by rw [HN.out];exact hlt
      obtain ⟨u,hu⟩:∃ u,l6[k]?=some u:=⟨l6[k],by simp [hkL]⟩
      obtain ⟨g4,rfl,h4⟩:=seg_cells HO.out.1 hu hlt
      obtain ⟨g5,rfl,h5⟩:=seg_cells HO.out.2.1 hu hlt
      obtain ⟨g6,rfl,h6⟩:=seg_cells HO.out.2.2 hu hlt
      obtain ⟨r40,r41,r42⟩:=h4 wr hbr
      obtain ⟨r50,r51,r52⟩:=h5 wr hbr
      obtain ⟨r60,r61,r62⟩:=h6 wr hbr
      have hki:(k:Int) < (n:Int):=by omega
      have hk0:(0:Int)≤(k:Int):=by omega
      have heq:∀ W:World,(Op.equalIn 10000 65 (.agg #[.int .i64 (u.f:Int),.int .i64 (u.t:Int),.int .i64 u.r]) (.agg #[.int .i64 (u.f:Int),.int .i64 (u.t:Int),.int .i64 u.r])).run Tryz.prog W=.ok true W:=fun W=>by rw [eqSeg];simp
      clear h4 h5 h6 hu
      go_wp2
      go_quiet (fail)
      go_wp2
      go_roundw
      case rel=>exact ⟨k + 1,by omega,by simp,by go_num,below_drewN hbr _⟩
      case measure=>simp [intOf];omega
    · obtain rfl:k=n:=by omega
      have o4:=own_belowAll HO.out.1 hbr
      have o5:=own_belowAll HO.out.2.1 hbr
      have B7:Book wr x (fun k=>S k∧k < w.heap.size) c:=HB6.out.below hbr
      have q4:=HQ4.out
      have q5:=HQ5.out
      have zr:=hbr.size
      have h36:Below w.heap.size w wr:=hb36.trans (hbr.mono (by omega))
      have HBr:Hid (Below w.heap.size w wr):=h36
      clear HQ4 HQ5 HO HB6 hb36 hbr h36
      go_wp2_with fail
      generalize (Value.slice a4 k d4)=v4 at *
      generalize (Value.slice a5 k d5)=v5 at *
      refine (keepSegs_any wr x _ c k v4 _ B7 (by omega) o4 (by omega) (fun j e h=>by have:=q4 j e;omega)).mono ?_
      rintro r w7 ⟨rfl,B8,K8⟩
      have s8:=K8.size
      have o5:=own_kept o5 K8 (fun j e=>⟨fun h=>by have:=q5 j e;omega,fun h=>by have:=q5 j e;have:=q4 j h;omega⟩)
      go_wp2_with fail
      refine (keepSegs_any w7 x _ (c + 1) k v5 _ B8 (by omega) o5 (by omega) (fun j e h=>by
        have:=q5 j e
        rcases h with h | h | h
        · omega
        · have:=q4 j h;omega
        · omega)).mono ?_
      rintro r w8 ⟨rfl,B9,K9⟩
      go_wp2
      go_ret
      refine ⟨rfl,B9.mono (fun j _ h=>?_),?_⟩
      · rcases h with (h | h | h) | h | h
        · exact .inl h.1
        · have:=q4 j h;exact .inr (by omega)
        · exact .inr (by omega)
        · have:=q5 j h;exact .inr (by omega)
        · exact .inr (by omega)
      · have hb:=HBr.out
        refine ⟨(K9.os.trans K8.os).trans hb.os,(K9.tape.trans K8.tape).trans hb.tape,(K9.output.trans K8.output).trans hb.output,by have:=K9.size;have:=hb.size;omega,fun j hj hp=>?_⟩
        have n4:v4.ownBlock ≠ some j:=fun h=>by have:=q4 j h;omega
        have n5:v5.ownBlock ≠ some j:=fun h=>by have:=q5 j h;omega
        have nS:¬ (S j∧j < w.heap.size):=fun h=>hp h.1
        have m8:¬ ((S j∧j < w.heap.size) ∨ v4.ownBlock=some j ∨ wr.heap.size≤j):=by
          rintro (h | h | h)
          · exact nS h
          · exact n4 h
          · omega
        exact ((K9.block j (by omega) ⟨m8,n5⟩).trans (K8.block j (by omega) ⟨nS,n4⟩)).trans (hb.block j hj)
end Pr
end Go.Proofs.YtpgcidpghmoibaaGreatDoor

namespace Go.Proofs.YtpgcidpghmoibaaGreatDoor
namespace Pr
open Go.RowKit
open G (PNode)
theorem places_eq {T:List PNode} {Q:List Nat} (hT:G.WF T) (hQ:∀ q ∈ Q,q < T.length) (h:G.sizeOf T Q≤100):(Q.flatMap (G.lv T)).length=G.sizeOf T Q:=by
  rw [G.len_flatMap,G.sizeOf_pls hT Q hQ h]
theorem ask_count {w:World} {b:Nat} {T:List PNode} {Q:List Nat} (h:PRul w b T Q) (d:Nat) (os:Array Obj):Calls Tryz.prog 16 #[pv b] (Sort.grow (redrawn w d) os) fun e w''=>e=.returned (.int .i64 (Q.length:Int))∧∃ p:Regrown,w''=Sort.grow (redrawn w p.d) p.os:=
  Calls.regrown_of ((count_any _ b T Q (h.below (below_regrown w d os))).mono (fun _ _ ⟨h1,h2⟩=>⟨h1,by rw [h2];exact Below.refl _ _⟩))
theorem ask_places {w:World} {b:Nat} {T:List PNode} {Q:List Nat} (h:PRul w b T Q) (hT:G.WF T) (hQ:∀ q ∈ Q,q < T.length) (hs:G.sizeOf T Q≤100) (d:Nat) (os:Array Obj):Calls Tryz.prog 17 #[pv b] (Sort.grow (redrawn w d) os) fun e w''=>e=.returned (.int .i64 (G.sizeOf T Q:Int))∧∃ p:Regrown,w''=Sort.grow (redrawn w p.d) p.os:=by
  have h1:=pplaces_any _ b T Q (h.below (below_regrown w d os)) hT hQ
  rw [places_eq hT hQ hs] at h1
  exact Calls.regrown_of (h1.mono (fun _ _ ⟨h1,h2⟩=>⟨h1,by rw [h2];exact Below.refl _ _⟩))
theorem ask_rplaces {w:World} {q:Nat} {T:List PNode} {Q:List Nat} {cs:Array Value} {vN vR:Value} {V:List (Value × Value)} (h:Rf.RoAt w q T Q cs vN vR V) (hT:G.WF T) (hQ:∀ q ∈ Q,q < T.length) (hql:Q.length≤50) (htl:T.length≤8000) (d:Nat) (os:Array Obj):Calls Tryz.prog 18 #[pv q] (Sort.grow (redrawn w d) os) fun e w''=>e=.returned (.int .i64 (G.sizeOf T Q:Int))∧∃ p:Regrown,w''=Sort.grow (redrawn w p.d) p.os:=
  Calls.regrown_of ((Rf.places_any _ q T Q cs vN vR V (h.below (below_regrown w d os)) hQ hT.le (by omega) (by omega)).mono (fun _ _ ⟨h1,n,h2⟩=>⟨h1,by rw [h2];exact below_drewN (Below.refl _ _) n⟩))
theorem ask_rsame {w:World} {q:Nat} {T:List PNode} {Q:List Nat} {cs:Array Value} {vN vR:Value} {V:List (Value × Value)} (h:Rf.RoAt w q T Q cs vN vR V) (hT:G.WF T) (hQ:∀ q ∈ Q,q < T.length) (hql:Q.length≤50) (htl:T.length≤8000) (hf:G.Few 2001 T) (a c:Int) (d:Nat) (os:Array Obj):Calls Tryz.prog 19 #[pv q,.int .i64 a,.int .i64 c] (Sort.grow (redrawn w d) os) fun e w''=>e=.returned (.bool (!(Q.any (G.tellB T a c))))∧∃ p:Regrown,w''=Sort.grow (redrawn w p.d) p.os:=
  Calls.regrown_of (Rf.same_any _ q T Q a c cs vN vR V (h.below (below_regrown w d os)) hT (by omega) (fun x hx=>by have:=hf x hx;omega) hQ (by omega))
end Pr
end Go.Proofs.YtpgcidpghmoibaaGreatDoor

namespace Go.Proofs.YtpgcidpghmoibaaGreatDoor
namespace Pr
open Go.RowKit
open G (PNode)
open Cs
abbrev opV (kd on:Int) (s t:ByteArray) (i a c:Int):Value:=.agg #[.int .i64 kd,.int .i64 on,.string s,.string t,.int .i64 i,.int .i32 a,.int .i32 c]
abbrev opO (kd on:Int) (s t:ByteArray) (i a c:Int):Obj:=.cells #[.int .i64 kd,.int .i64 on,.string s,.string t,.int .i64 i,.int .i32 a,.int .i32 c] 103
theorem still_tail {P:Program} {id:Nat} {Q:Exit→Act→World→Prop} {a:Act} {w:World} {l:List Oper} (n:Nat) (hm:P.follows .mixedOrders=true) (hB:Region.lexTailB .any l.toArray n=true)
    (h:wpStill P l.toArray w.drew (fun a'=>wpList P l.toArray Q (l.drop n) a' w.drew) (l.take n) a):(Code.region id l.toArray true).wp P Q a w:=wp_region_still_tail n hm hB h
section
variable (w:World) (b x c:Nat) (col:Nat→Nat) (vr vc:Value) (Ps Cs:List (Nat × Nat))
structure AskAt (w:World) (b x c:Nat) (col:Nat→Nat) (vr vc:Value) (Ps Cs:List (Nat × Nat)) (r q:Nat):Prop where
  ws:Ws w b x c col vr vc Ps Cs
  pr:PairAt w (fun k=>col k=1) r q
  hc:c≤99999990
  hp:Ps.length≤100000000
  hs:Cs.length≤100000000
theorem AskAt.below {w w':World} {b x c:Nat} {col:Nat→Nat} {vr vc:Value} {Ps Cs:List (Nat × Nat)} {r q:Nat} (h:AskAt w b x c col vr vc Ps Cs r q) (hb:Below w.heap.size w w'):AskAt w' b x c col vr vc Ps Cs r q:=
  ⟨h.ws.below hb,h.pr.same hb.size (fun k _ hk=>hb.block k hk),h.hc,h.hp,h.hs⟩
theorem below_two (w:World) (o o':Obj):Below w.heap.size w ((w.alloc o).alloc o'):=((Below.refl _ _).alloc (Nat.le_refl _) _).alloc (by simp) _
set_option maxRecDepth 100000 in
set_option maxHeartbeats 4000000 in
theorem asks_none (r q:Nat) (h:AskAt w b x c col vr vc Ps Cs r q) (kd on:Int) (s t:ByteArray) (i a d:Int) (k3:(kd == 3)=false) (k4:(kd == 4)=false) (k5:(kd == 5)=false) (k7:(kd == 7)=false) :
    Calls Tryz.prog 75 #[pv b,.agg #[pv r,pv q],opV kd on s t i a d] w fun e w'=>StepPost w b x c col Ps Cs e w':=by
  have hb2:=below_two w (.cells #[pv r,pv q] 136) (opO kd on s t i a d)
  have HW:Hid _:=And.intro (h.ws.below hb2) hb2
  have o0:=Rf.cell_blk (heap_alloc_new (w.alloc (.cells #[pv r,pv q] 136)) (opO kd on s t i a d)) 0 (.int .i64 kd) rfl
  clear h hb2
  go_enter Tryz.func75,Tryz.ntmps75
  go_wp2
  go_ret
  exact ⟨rfl,c,col,vr,vc,Ps,Cs,HW.out.1,Fr.of_below HW.out.2,by omega,by omega,by omega⟩
set_option maxRecDepth 100000 in
set_option maxHeartbeats 4000000 in
theorem asks_over (r q:Nat) (h:AskAt w b x c col vr vc Ps Cs r q) (on:Int) (s t:ByteArray) (ht:t.size≤maxLen) (i a d:Int) :
    Calls Tryz.prog 75 #[pv b,.agg #[pv r,pv q],opV 5 on s t i a d] w fun e w'=>StepPost w b x c col Ps Cs e w':=by
  have hb2:=below_two w (.cells #[pv r,pv q] 136) (opO 5 on s t i a d)
  have h2:=h.below hb2
  have hO:=wover_any _ b x c col vr vc Ps Cs h2.ws r q h2.pr t ht h.hs
  have HF:Hid (Fr col w col ((w.alloc (.cells #[pv r,pv q] 136)).alloc (opO 5 on s t i a d))):=Fr.of_below hb2
  have hn:=heap_alloc_new (w.alloc (.cells #[pv r,pv q] 136)) (opO 5 on s t i a d)
  have o0:=Rf.cell_blk hn 0 (.int .i64 5) rfl
  have o3:=Rf.cell_blk hn 3 (.string t) rfl
  have hp:=(Below.heap_alloc (w.alloc (.cells #[pv r,pv q] 136)) (opO 5 on s t i a d) w.heap.size (by simp)).trans (heap_alloc_new w (.cells #[pv r,pv q] 136))
  have p0:=Rf.cell_blk hp 0 (pv r) rfl
  have p1:=Rf.cell_blk hp 1 (pv q) rfl
  clear h hb2 h2 hn hp
  go_enter Tryz.func75,Tryz.ntmps75
  go_wp2_with fail
  refine hO.mono ?_
  rintro e w3 ⟨rfl,c',col',vr',vc',Ps',Cs',hW,hF,q1,q2,q3⟩
  go_wp2
  go_ret
  exact ⟨rfl,c',col',vr',vc',Ps',Cs',hW,HF.out.trans hF,q1,q2,q3⟩
set_option maxRecDepth 100000 in
set_option maxHeartbeats 4000000 in
theorem asks_cut (r q:Nat) (h:AskAt w b x c col vr vc Ps Cs r q) (on:Int) (s t:ByteArray) (ht:t.size≤maxLen) (i a d:Int) :
    Calls Tryz.prog 75 #[pv b,.agg #[pv r,pv q],opV 4 on s t i a d] w fun e w'=>StepPost w b x c col Ps Cs e w':=by
  have hb2:=below_two w (.cells #[pv r,pv q] 136) (opO 4 on s t i a d)
  have h2:=h.below hb2
  obtain ⟨T,Q,hRu,hRi,hFit⟩:=h2.pr.use
  have hn:=heap_alloc_new (w.alloc (.cells #[pv r,pv q] 136)) (opO 4 on s t i a d)
  have hz1:(w.alloc (.cells #[pv r,pv q] 136)).heap.size=w.heap.size + 1:=by simp
  rw [hz1] at hn
  have o0:=Rf.cell_blk hn 0 (.int .i64 4) rfl
  have o3:=Rf.cell_blk hn 3 (.string t) rfl
  have o4:=Rf.cell_blk hn 4 (.int .i64 i) rfl
  have hp:=(Below.heap_alloc (w.alloc (.cells #[pv r,pv q] 136)) (opO 4 on s t i a d) w.heap.size (by simp)).trans (heap_alloc_new w (.cells #[pv r,pv q] 136))
  have p0:=Rf.cell_blk hp 0 (pv r) rfl
  have p1:=Rf.cell_blk hp 1 (pv q) rfl
  have b0:=Rf.cell_blk h2.ws.blk 0 (pv x) rfl
  have hdr:Below ((w.alloc (.cells #[pv r,pv q] 136)).alloc (opO 4 on s t i a d)).heap.size ((w.alloc (.cells #[pv r,pv q] 136)).alloc (opO 4 on s t i a d)) ((w.alloc (.cells #[pv r,pv q] 136)).alloc (opO 4 on s t i a d)).drew:=(Below.refl _ _).drew
  have hM:=matches_w _ r q T Q x (fun k=>col k=2) ((⟨hRu.pin,hRi⟩:Ask _ r q T Q).below hdr) c (h2.ws.book.below hdr) h.hc t i ht
  have HW:Hid _:=And.intro (h2.ws.below hdr) (Fr.of_below (col:=col) (hb2.trans (hdr.mono hb2.size)))
  clear h hb2 h2 hn hp hRu hRi hFit hdr
  go_enter Tryz.func75,Tryz.ntmps75
  go_wp2
  generalize ((w.alloc (.cells #[pv r,pv q] 136)).alloc (opO 4 on s t i a d))=W at *
  refine still_tail 12 (by kernel_rfl) (by kernel_rfl) ?_
  simp only [List.take_succ_cons,List.take_zero,List.drop_succ_cons,List.drop_zero]
  repeat still_step
  refine wpStill_nil ?_
  go_wp2_with fail
  refine hM.mono ?_
  rintro e w3 ⟨rfl,hB3,hK3⟩
  obtain ⟨col3,hW3,hF3⟩:=Ws.kept HW.out.1 hK3 hB3
  have HW3:Hid _:=And.intro hW3 hF3
  clear hB3 hK3 hW3 hF3
  go_wp2
  go_ret
  exact ⟨rfl,c + 2,col3,vr,vc,Ps,Cs,HW3.out.1,HW.out.2.trans HW3.out.2,by omega,by omega,by omega⟩
set_option maxRecDepth 100000 in
set_option maxHeartbeats 4000000 in
theorem asks_pack (r q:Nat) (h:AskAt w b x c col vr vc Ps Cs r q) (hT:Tabs w) (on:Int) (s t:ByteArray) (i a d:Int) :
    Calls Tryz.prog 75 #[pv b,.agg #[pv r,pv q],opV 7 on s t i a d] w fun e w'=>StepPost w b x c col Ps Cs e w':=by
  obtain ⟨i0,hi,hz0,hz1,hz2⟩:=info_parts infoPair
  have hb2:=below_two w (.cells #[pv r,pv q] 136) (opO 7 on s t i a d)
  have h2:=h.below hb2
  have hT2:=hT.below hb2
  obtain ⟨T,Q,hRu,hFit,hNew⟩:=h2.pr.packs
  have hn:=heap_alloc_new (w.alloc (.cells #[pv r,pv q] 136)) (opO 7 on s t i a d)
  have hzz:(w.alloc (.cells #[pv r,pv q] 136)).heap.size=w.heap.size + 1:=by simp
  rw [hzz] at hn
  have o0:=Rf.cell_blk hn 0 (.int .i64 7) rfl
  have hp:=(Below.heap_alloc (w.alloc (.cells #[pv r,pv q] 136)) (opO 7 on s t i a d) w.heap.size (by simp)).trans (heap_alloc_new w (.cells #[pv r,pv q] 136))
  have p0:=Rf.cell_blk hp 0 (pv r) rfl
  have p1:=Rf.cell_blk hp 1 (pv q) rfl
  have hlp:=lt_of_block hp
  have HF:Hid (Fr col w col ((w.alloc (.cells #[pv r,pv q] 136)).alloc (opO 7 on s t i a d))):=Fr.of_below hb2
  have HN:Hid _:=hNew
  have HW:Hid _:=h2.ws
  have hPl:=h.hp
  clear h hb2 hn hp hNew
  go_enter Tryz.func75,Tryz.ntmps75
  go_wp2_with fail
  generalize ((w.alloc (.cells #[pv r,pv q] 136)).alloc (opO 7 on s t i a d))=W at *
  refine (pack_any W r T Q hRu.pr).mono ?_
  rintro e W' ⟨⟨sp,hsp,hspr,rfl⟩,rfl⟩
  go_wp2_with fail
  refine (load_ok W' sp T Q hsp hspr hRu.few hRu.sz hT2).mono ?_
  rintro e w3 ⟨hb3,r',_,rfl,hR'⟩
  have z3:=hb3.size
  have hP3:=HN.out w3 r' hb3 hR'
  have hW3:=HW.out.below hb3
  have hF3:=HF.out.trans (Fr.of_below hb3)
  have hP4:=PairAt.froze' (N:=w3.heap.size) hW3 hW3.lt hP3
  obtain ⟨hW4,hF4⟩:=hW3.freeze (N:=w3.heap.size) hW3.lt
  obtain ⟨ca,cb,hvc⟩:=own_len' hW4.oR
  subst hvc
  have d1:=Rf.cell_blk hW4.blk 1 (.slice ca Ps.length cb) rfl
  have q1:=(hb3.cell (p:=⟨w.heap.size,1,none⟩) hlp).trans p1
  have HW4:Hid (Ws w3 b x c (froze w3 w3.heap.size col) (.slice ca Ps.length cb) vc Ps Cs):=hW4
  have HP4:Hid (PairAt w3 (fun k=>froze w3 w3.heap.size col k=1) r' q):=hP4
  have HF4:Hid (Fr col w (froze w3 w3.heap.size col) w3):=hF3.trans hF4
  have oR:=hW4.oR
  have hbl:=lt_of_block hW4.blk
  clear hRu hFit hT2 hspr hsp h2 HF HN HW hb3 hR' hP3 hW3 hF3 hP4 hW4 hF4 p0 p1 o0
  go_wp2
  go_region_law
    ((refine step_append_lies _ (by rfl) _ _ _ (by rfl) 0 136 i0 _ 2 16 Tryz.underlying97 hi hz0 hz1 hz2 rfl (by omega) (.slice ca Ps.length cb) Ps.length (prs Ps) (by rfl) ((oR.alloc _).drew)
        ⟨w3.heap.size,0,none⟩ 1 1 [pv r',pv q] (by rfl) (by rfl) (World.news_of_block (cs:=#[pv r',pv q]) (t:=136) (fr:=(0,0)) (heap_alloc_new w3 _)) (by simp [Value.oneCell'])
        (by omega) (by unfold maxLen;omega) (by omega) (by simp) (w3.heap.size + 1) (by simp) ?_;intro g5 cap5 w5 hn5 hg5 hat5 hlt5;have hb5:w5.heap[b]?=_:=(hg5.block b (by simp;omega) (fun e=>by have:=HW4.out.cR b e.symm;rw [HW4.out.cb] at this;omega)).trans ((Below.heap_alloc _ _ _ hbl).trans HW4.out.blk);have cb5:=Rf.cell_blk hb5 1 _ rfl;have fb5:=Rf.free_blk hb5 1;clear hb5))
  all_goals
    obtain ⟨col5,hW5,hF5⟩:=HW4.out.addP (w2:=w5) HP4.out (((Kept.refl _ _).alloc _).drew) hg5 hn5 (hat5.imp id (fun h=>by omega)) hlt5
    have HW5:Hid _:=And.intro hW5 hF5
    clear cb5 fb5 hg5 hn5 hat5 hlt5 hW5 hF5
    go_wp2
    go_ret
    exact ⟨rfl,c,col5,_,vc,_,Cs,HW5.out.1,HF4.out.trans HW5.out.2,by omega,by simp,by omega⟩
set_option maxRecDepth 100000 in
set_option maxHeartbeats 4000000 in
theorem asks_tells (r q:Nat) (h:AskAt w b x c col vr vc Ps Cs r q) (on:Int) (s t:ByteArray) (i a d:Int) (ha:-2147483648≤a∧a≤2147483647) (hd:-2147483648≤d∧d≤2147483647) :
    Calls Tryz.prog 75 #[pv b,.agg #[pv r,pv q],opV 3 on s t i a d] w fun e w'=>StepPost w b x c col Ps Cs e w':=by
  have hb2:=below_two w (.cells #[pv r,pv q] 136) (opO 3 on s t i a d)
  have h2:=h.below hb2
  obtain ⟨T,Q,hRu,⟨L,B,Fr',J,hri⟩,hFit⟩:=h2.pr.use
  obtain ⟨cs,vN,vR,vS,vB,vF,V,W',hs,_⟩:=hri.at'.ex
  have hro:=hs.ro
  have hn:=heap_alloc_new (w.alloc (.cells #[pv r,pv q] 136)) (opO 3 on s t i a d)
  have hzz:(w.alloc (.cells #[pv r,pv q] 136)).heap.size=w.heap.size + 1:=by simp
  rw [hzz] at hn
  have o0:=Rf.cell_blk hn 0 (.int .i64 3) rfl
  have o5:=Rf.cell_blk hn 5 (.int .i32 a) rfl
  have o6:=Rf.cell_blk hn 6 (.int .i32 d) rfl
  have hp:=(Below.heap_alloc (w.alloc (.cells #[pv r,pv q] 136)) (opO 3 on s t i a d) w.heap.size (by simp)).trans (heap_alloc_new w (.cells #[pv r,pv q] 136))
  have p0:=Rf.cell_blk hp 0 (pv r) rfl
  have p1:=Rf.cell_blk hp 1 (pv q) rfl
  have hlp:=lt_of_block hp
  have hln:=lt_of_block hn
  have hwa:IntKind.i64.wrap a=a:=by rw [IntKind.wrap_i64];omega
  have hwc:IntKind.i64.wrap d=d:=by rw [IntKind.wrap_i64];omega
  have hSa:=psame_any _ r T Q hRu.pr hRu.wf hRu.lt (by rw [places_eq hRu.wf hRu.lt hRu.sz];exact hRu.sz) a d
  have HW:Hid _:=And.intro h2.ws hb2
  clear h hb2 hn hp hri hs h2
  go_enter Tryz.func75,Tryz.ntmps75
  go_wp2_with fail
  generalize ((w.alloc (.cells #[pv r,pv q] 136)).alloc (opO 3 on s t i a d))=W at *
  refine hSa.mono ?_
  rintro e w3 ⟨rfl,hb3⟩
  have hp3:=hRu.pr.below hb3
  have hro3:=hro.below hb3
  have hC:=ask_count hp3
  have hP:=ask_places hp3 hFit.wf hFit.lt hFit.sz
  have hRP:=ask_rplaces hro3 hFit.wf hFit.lt hFit.few hFit.tl
  have hRS:=ask_rsame hro3 hFit.wf hFit.lt hFit.few hFit.tl hFit.fe a d
  obtain ⟨ra,rc,hre⟩:=Rf.own_len hro3.oR
  subst hre
  have q7:∀ d os,(Sort.grow (redrawn w3 d) os).cell? ⟨q,7,none⟩=some (.slice ra Q.length rc):=fun d os=>cell_regrown (Rf.cell_blk hro3.blk 7 _ hro3.c7) d os
  have q0:∀ d os,(Sort.grow (redrawn w3 d) os).cell? ⟨w.heap.size,0,none⟩=some (pv r):=fun d os=>cell_regrown ((hb3.cell (p:=⟨w.heap.size,0,none⟩) hlp).trans p0) d os
  have q1:∀ d os,(Sort.grow (redrawn w3 d) os).cell? ⟨w.heap.size,1,none⟩=some (pv q):=fun d os=>cell_regrown ((hb3.cell (p:=⟨w.heap.size,1,none⟩) hlp).trans p1) d os
  have q5:∀ d' os,(Sort.grow (redrawn w3 d') os).cell? ⟨w.heap.size + 1,5,none⟩=some (.int .i32 a):=fun d' os=>cell_regrown ((hb3.cell (p:=⟨w.heap.size + 1,5,none⟩) hln).trans o5) d' os
  have q6:∀ d' os,(Sort.grow (redrawn w3 d') os).cell? ⟨w.heap.size + 1,6,none⟩=some (.int .i32 d):=fun d' os=>cell_regrown ((hb3.cell (p:=⟨w.heap.size + 1,6,none⟩) hln).trans o6) d' os
  have HW3:Hid _:=And.intro (Ws.below HW.out.1 hb3) (Fr.of_below (col:=col) (HW.out.2.trans (hb3.mono HW.out.2.size)))
  clear hRu hro hro3 hp3 hFit hSa HW hb3 o0 o5 o6 p0 p1
  generalize (!(Q.any (G.tellB T a d)))=bb at *
  generalize G.sizeOf T Q=sz at *
  generalize Q.length=ql at *
  go_wp2_with fail
  refine wp_region_quiet_below (by kernel_rfl) (by kernel_rfl) ?_
  repeat (first | go_big_quiet_step (first | exact hC _ _ | exact hP _ _ | exact hRP _ _ | exact hRS _ _) | quiet_step (first | exact hC _ _ | exact hP _ _ | exact hRP _ _ | exact hRS _ _))
  refine wpQuiet_nil ?_
  intro _ hw'
  obtain ⟨⟨dq,osq⟩,hw''⟩:=hw'
  subst hw''
  have HB2:Hid _:=below_regrown w3 dq osq
  clear hC hP hRP hRS q7 q0 q1 q5 q6
  go_wp2
  go_ret
  exact ⟨rfl,c,col,vr,vc,Ps,Cs,Ws.below HW3.out.1 HB2.out,Fr.trans HW3.out.2 (Fr.of_below HB2.out),by omega,by omega,by omega⟩
end
end Pr
end Go.Proofs.YtpgcidpghmoibaaGreatDoor
