/-
  THE PROGRAM's STEP, as plain functions
  THE PROGRAM's STEP
  THE PROGRAM's MEMORY OF STEPS
  THE PROGRAM's STEP, remembered
-/
import Derived.Test.YtpgcidpghmoibaaGreatDoorK41
import Derived.Test.YtpgcidpghmoibaaGreatDoorK20
import Derived.Test.YtpgcidpghmoibaaGreatDoorK40
import Derived.Test.YtpgcidpghmoibaaGreatDoorK35
import Derived.DeepKeys5
import Derived.MapViews
import Derived.Deep.RegionLaw
namespace Go.Proofs.YtpgcidpghmoibaaGreatDoor
namespace Pr
open G (PNode Lang Gl Pth)
def woStep (x:PB) (c:Int) (i:Nat) (p:Pl) (o:PB × Int):PB × Int:=
  if (x.has i && G.inV p.x c)=true then (o.1.or p.be,if (p.last && decide (o.2=-1))=true then (p.rule:Int) else o.2) else o
def woTo (P:List Pl) (x:PB) (c:Int):Nat→PB × Int
  | 0=>(PB.zero,-1)
  | k + 1=>match P[k]? with | some p=>woStep x c k p (woTo P x c k) | none=>woTo P x c k
def wo (P:List Pl) (x:PB) (c:Int):PB × Int:=woTo P x c P.length
theorem woTo_step {P:List Pl} {x:PB} {c:Int} {k:Nat} {p:Pl} (h:P[k]?=some p):woTo P x c (k + 1)=woStep x c k p (woTo P x c k):=by simp [woTo,h]
theorem woTo_ok {P:List Pl} (hP':OkP P) (x:PB) (c:Int):∀ k,(woTo P x c k).1.Ok
  | 0=>PB.ok_zero
  | k + 1=>by
    have ih:=woTo_ok hP' x c k
    cases hp:P[k]? with
    | none=>simp only [woTo,hp];exact ih
    | some p =>
      rw [woTo_step hp,woStep]
      split
      · exact ih.or (hP'.at hp)
      · exact ih
theorem woTo_state {P:List Pl} (hP':OkP P) (hl:P.length≤128) (x:PB) (c:Int):∀ k,k≤P.length→∀ j,hP (woTo P x c k).1 j ↔ ∃ i,i < k∧hP x i∧tP P i c∧bP P i j
  | 0,_,j=>by
    constructor
    · intro h;exact absurd h (hP_zero j)
    · rintro ⟨i,h,_⟩;omega
  | k + 1,hk,j=>by
    have ih:=woTo_state hP' hl x c k (by omega) j
    have hp:P[k]?=some (P[k]'(by omega)):=List.getElem?_eq_getElem _
    generalize P[k]'(by omega)=p at hp
    have hsame:∀ i,i < k + 1 ↔ i < k ∨ i=k:=fun i=>by omega
    rw [woTo_step hp,woStep]
    by_cases hc:(x.has k && G.inV p.x c)=true
    · rw [if_pos hc]
      simp only [Bool.and_eq_true] at hc
      show hP ((woTo P x c k).1.or p.be) j ↔ _
      rw [hP_or (woTo_ok hP' x c k) (hP'.at hp),ih]
      constructor
      · rintro (⟨i,h1,h2⟩ | h)
        · exact ⟨i,by omega,h2⟩
        · exact ⟨k,by omega,⟨by omega,hc.1⟩,⟨p,hp,hc.2⟩,⟨p,hp,h⟩⟩
      · rintro ⟨i,h1,h2,h3,h4⟩
        by_cases e:i=k
        · subst e
          obtain ⟨q,hq,h⟩:=h4
          rw [hp] at hq
          simp only [Option.some.injEq] at hq
          subst hq
          exact .inr h
        · exact .inl ⟨i,by omega,h2,h3,h4⟩
    · rw [if_neg hc,ih]
      constructor
      · rintro ⟨i,h1,h2⟩;exact ⟨i,by omega,h2⟩
      · rintro ⟨i,h1,h2,h3,h4⟩
        by_cases e:i=k
        · subst e
          obtain ⟨q,hq,h⟩:=h3
          rw [hp] at hq
          simp only [Option.some.injEq] at hq
          subst hq
          exact absurd (by simp [h2.2,h]) hc
        · exact ⟨i,by omega,h2,h3,h4⟩
def Ends (P:List Pl) (x:PB) (c:Int) (i:Nat) (p:Pl):Prop:=P[i]?=some p∧hP x i∧G.inV p.x c=true∧p.last=true
theorem woTo_rule {P:List Pl} (hl:P.length≤128) (x:PB) (c:Int):∀ k,k≤P.length →
    ((woTo P x c k).2=-1∧∀ i p,i < k→¬ Ends P x c i p) ∨ ∃ i p,i < k∧Ends P x c i p∧(woTo P x c k).2=(p.rule:Int)∧∀ i' p',i' < i→¬ Ends P x c i' p'
  | 0,_=>.inl ⟨rfl,fun i p h=>by omega⟩
  | k + 1,hk=>by
    have ih:=woTo_rule hl x c k (by omega)
    have hp:P[k]?=some (P[k]'(by omega)):=List.getElem?_eq_getElem _
    generalize P[k]'(by omega)=p at hp
    rw [woTo_step hp,woStep]
    by_cases hc:(x.has k && G.inV p.x c)=true
    · rw [if_pos hc]
      simp only [Bool.and_eq_true] at hc
      rcases ih with ⟨h1,h2⟩ | ⟨i,q,h1,h2,h3,h4⟩
      · simp only [h1,decide_true,Bool.and_true]
        by_cases hlast:p.last=true
        · rw [if_pos hlast]
          exact .inr ⟨k,p,by omega,⟨hp,⟨by omega,hc.1⟩,hc.2,hlast⟩,rfl,fun i' p' hi'=>h2 i' p' hi'⟩
        · rw [if_neg hlast]
          refine .inl ⟨rfl,fun i q hi hE=>?_⟩
          by_cases e:i=k
          · subst e
            have:=hE.1
            rw [hp] at this
            simp only [Option.some.injEq] at this
            subst this
            exact hlast hE.2.2.2
          · exact h2 i q (by omega) hE
      · have hne:¬ (woTo P x c k).2=-1:=by omega
        simp only [hne,decide_false,Bool.and_false,Bool.false_eq_true,if_false]
        exact .inr ⟨i,q,by omega,h2,h3,h4⟩
    · rw [if_neg hc]
      rcases ih with ⟨h1,h2⟩ | ⟨i,q,h1,h2,h3,h4⟩
      · refine .inl ⟨h1,fun i q hi hE=>?_⟩
        by_cases e:i=k
        · subst e
          have:=hE.1
          rw [hp] at this
          simp only [Option.some.injEq] at this
          subst this
          exact hc (by simp [hE.2.1.2,hE.2.2.1])
        · exact h2 i q (by omega) hE
      · exact .inr ⟨i,q,by omega,h2,h3,h4⟩
end Pr
end Go.Proofs.YtpgcidpghmoibaaGreatDoor

namespace Go.Proofs.YtpgcidpghmoibaaGreatDoor
namespace Pr
open Go.RowKit
open Rf (Kept Lies)
open G (PNode)
abbrev stepV (x:PB) (c:Int):Value:=.agg #[.int .u64 x.a,.int .u64 x.c,.int .i32 c]
abbrev outV (o:PB × Int):Value:=.agg #[.int .u64 o.1.a,.int .u64 o.1.c,.int .i64 o.2]
structure WInv (w:World) (P:List Pl) (x:PB) (c:Int) (k:Nat) (wr:World):Prop where
  be:Below w.heap.size w wr
  hs:wr.heap[w.heap.size]?=some (.cells #[.int .u64 x.a,.int .u64 x.c,.int .i32 c] 171 (0,0))
  hr:wr.heap[w.heap.size + 1]?=some (.cells #[.int .u64 0,.int .u64 0,.int .i64 0] 168 (0,0))
  ho:wr.heap[w.heap.size + 2]?=some (.cells #[.int .u64 (woTo P x c k).1.a,.int .u64 (woTo P x c k).1.c,.int .i64 (woTo P x c k).2] 168 (0,0))
theorem WInv.below {w:World} {P:List Pl} {x:PB} {c:Int} {k:Nat} {w1 w2:World} (h:WInv w P x c k w1) (hb:Below w1.heap.size w1 w2):WInv w P x c k w2 where
  be:=h.be.trans (hb.mono h.be.size)
  hs:=(hb.block _ (lt_of_block h.hs)).trans h.hs
  hr:=(hb.block _ (lt_of_block h.hr)).trans h.hr
  ho:=(hb.block _ (lt_of_block h.ho)).trans h.ho
theorem WInv.skip {w:World} {P:List Pl} {x:PB} {c:Int} {k:Nat} {w1:World} {p:Pl} (h:WInv w P x c k w1) (hp:P[k]?=some p) (hc:(x.has k && G.inV p.x c)=false):WInv w P x c (k + 1) w1 where
  be:=h.be
  hs:=h.hs
  hr:=h.hr
  ho:=by rw [woTo_step hp,woStep,hc];exact h.ho
theorem WInv.put {w:World} {P:List Pl} {x:PB} {c:Int} {k:Nat} {w1:World} {p:Pl} (h:WInv w P x c k w1) (hp:P[k]?=some p) (hc:(x.has k && G.inV p.x c)=true) (hno:(p.last && decide ((woTo P x c k).2=-1))=false) :
    WInv w P x c (k + 1) ((w1.setCell ⟨w.heap.size + 2,0,none⟩ (.int .u64 ((woTo P x c k).1.or p.be).a)).setCell ⟨w.heap.size + 2,1,none⟩ (.int .u64 ((woTo P x c k).1.or p.be).c)) where
  be:=(h.be.setCell (by simp) _).setCell (by simp) _
  hs:=(Rf.blk_ne _ (by omega)).trans ((Rf.blk_ne _ (by omega)).trans h.hs)
  hr:=(Rf.blk_ne _ (by omega)).trans ((Rf.blk_ne _ (by omega)).trans h.hr)
  ho:=by
    rw [woTo_step hp,woStep,hc,hno]
    exact Rf.blk_set (Rf.blk_set h.ho 0 _) 1 _
theorem WInv.putR {w:World} {P:List Pl} {x:PB} {c:Int} {k:Nat} {w1:World} {p:Pl} (h:WInv w P x c k w1) (hp:P[k]?=some p) (hc:(x.has k && G.inV p.x c)=true) (hyes:(p.last && decide ((woTo P x c k).2=-1))=true) :
    WInv w P x c (k + 1) (((w1.setCell ⟨w.heap.size + 2,0,none⟩ (.int .u64 ((woTo P x c k).1.or p.be).a)).setCell ⟨w.heap.size + 2,1,none⟩ (.int .u64 ((woTo P x c k).1.or p.be).c)).setCell ⟨w.heap.size + 2,2,none⟩ (.int .i64 (p.rule:Int))) where
  be:=((h.be.setCell (by simp) _).setCell (by simp) _).setCell (by simp) _
  hs:=(Rf.blk_ne _ (by omega)).trans ((Rf.blk_ne _ (by omega)).trans ((Rf.blk_ne _ (by omega)).trans h.hs))
  hr:=(Rf.blk_ne _ (by omega)).trans ((Rf.blk_ne _ (by omega)).trans ((Rf.blk_ne _ (by omega)).trans h.hr))
  ho:=by
    rw [woTo_step hp,woStep,hc,hyes]
    exact Rf.blk_set (Rf.blk_set (Rf.blk_set h.ho 0 _) 1 _) 2 _
set_option maxRecDepth 100000 in
set_option maxHeartbeats 2000000 in
theorem workout_any (w:World) (I:Nat→Prop) (m:Nat) (v:Value) (P:List Pl) (V:List Value) (f:PB) (hM:MaAt w I m v P V f) (hI:∀ k,I k→k < w.heap.size) (hn:P.length≤100) (x:PB) (c:Int) :
    Calls Tryz.prog 120 #[pv m,stepV x c] w fun e w'=>e=.returned (outV (wo P x c))∧Below w.heap.size w w':=by
  obtain ⟨va,vc,hve⟩:=Rf.own_len hM.row
  subst hve
  have hml:=lt_of_block hM.blk
  have hbA:Below w.heap.size w (((w.alloc (.cells #[.int .u64 x.a,.int .u64 x.c,.int .i32 c] 171)).alloc (.cells #[.int .u64 0,.int .u64 0,.int .i64 0] 168)).alloc (.cells #[.int .u64 0,.int .u64 0,.int .i64 (-1)] 168)):=(((Below.refl _ w).alloc (Nat.le_refl _) _).alloc (by simp) _).alloc (by simp;omega) _
  have c0:=Rf.cell_blk (hM.below hI hbA).blk 0 (.slice va P.length vc) rfl
  have h0:WInv w P x c 0 (((w.alloc (.cells #[.int .u64 x.a,.int .u64 x.c,.int .i32 c] 171)).alloc (.cells #[.int .u64 0,.int .u64 0,.int .i64 0] 168)).alloc (.cells #[.int .u64 0,.int .u64 0,.int .i64 (-1)] 168)):=by
    refine ⟨hbA,Rf.blk_alloc _ (Rf.blk_alloc _ (heap_alloc_new w _)),Rf.blk_alloc _ ?_,?_⟩
    · have:=heap_alloc_new (w.alloc (.cells #[.int .u64 x.a,.int .u64 x.c,.int .i32 c] 171)) (.cells #[.int .u64 0,.int .u64 0,.int .i64 0] 168)
      rw [show (w.alloc (.cells #[.int .u64 x.a,.int .u64 x.c,.int .i32 c] 171)).heap.size=w.heap.size + 1 by simp] at this
      exact this
    · have:=heap_alloc_new ((w.alloc (.cells #[.int .u64 x.a,.int .u64 x.c,.int .i32 c] 171)).alloc (.cells #[.int .u64 0,.int .u64 0,.int .i64 0] 168)) (.cells #[.int .u64 0,.int .u64 0,.int .i64 (-1)] 168)
      rw [show ((w.alloc (.cells #[.int .u64 x.a,.int .u64 x.c,.int .i32 c] 171)).alloc (.cells #[.int .u64 0,.int .u64 0,.int .i64 0] 168)).heap.size=w.heap.size + 2 by simp] at this
      exact this
  have H0:Hid _:=h0
  clear h0 hbA
  go_enter Tryz.func120,Tryz.ntmps120
  go_wp2
  clear c0
  go_loopw [6,7,14] (fun _ _ vk wr=>∃ k:Nat,vk=.int .i64 k∧k≤P.length∧WInv w P x c k wr) (fun _ _ vk _=>P.length - (intOf vk).toNat)
  case atStart=>exact ⟨0,rfl,Nat.zero_le _,H0.out⟩
  case round =>
    obtain ⟨k,rfl,hk,hW⟩:=hrel
    have s0:=Rf.cell_blk hW.hs 0 (.int .u64 x.a) rfl
    have s1:=Rf.cell_blk hW.hs 1 (.int .u64 x.c) rfl
    have s2:=Rf.cell_blk hW.hs 2 (.int .i32 c) rfl
    have hls:=lt_of_block hW.ho
    have hls0:w.heap.size < wr.heap.size:=by omega
    have hls1:w.heap.size + 1 < wr.heap.size:=by omega
    by_cases hlt:k < P.length
    · have hM1:=hM.below hI hW.be
      have hp:P[k]?=some (P[k]'hlt):=List.getElem?_eq_getElem hlt
      generalize P[k]'hlt=p at hp
      have hu:V[k]?=some (V[k]'(by rw [hM.len];exact hlt)):=List.getElem?_eq_getElem _
      generalize V[k]'(by rw [hM.len];exact hlt)=u at hu
      obtain ⟨rs,hrow,hok,hui⟩:=hM1.sets k p u hp hu
      obtain ⟨ua,uc,hue⟩:=Rf.own_len hrow
      subst hue
      have hrw:=hM1.row
      obtain ⟨g,cap,hve,_,_⟩:=hrw.form (by omega)
      simp only [Value.slice.injEq] at hve
      obtain ⟨rfl,_,rfl⟩:=hve
      have d0:wr.cell? ⟨g,k * 6,none⟩=some (.slice ua rs.length uc):=own_cell' hrw (k * 6 + 0) ((pcells_get hp hu 0 (by omega)).trans rfl)
      have d1:wr.cell? ⟨g,k * 6 + 1,none⟩=some (.bool p.x.other):=own_cell' hrw (k * 6 + 1) ((pcells_get hp hu 1 (by omega)).trans rfl)
      have d2:wr.cell? ⟨g,k * 6 + 2,none⟩=some (.int .i64 (p.rule:Int)):=own_cell' hrw (k * 6 + 2) ((pcells_get hp hu 2 (by omega)).trans rfl)
      have d3:wr.cell? ⟨g,k * 6 + 3,none⟩=some (.bool p.last):=own_cell' hrw (k * 6 + 3) ((pcells_get hp hu 3 (by omega)).trans rfl)
      have d4:wr.cell? ⟨g,k * 6 + 4,none⟩=some (.int .u64 p.be.a):=own_cell' hrw (k * 6 + 4) ((pcells_get hp hu 4 (by omega)).trans rfl)
      have d5:wr.cell? ⟨g,k * 6 + 5,none⟩=some (.int .u64 p.be.c):=own_cell' hrw (k * 6 + 5) ((pcells_get hp hu 5 (by omega)).trans rfl)
      have hb1:Below wr.heap.size wr (wr.alloc (.cells #[.slice ua rs.length uc,.bool p.x.other,.int .i64 (p.rule:Int),.bool p.last,.int .u64 p.be.a,.int .u64 p.be.c] 158)):=(Below.refl _ _).alloc (Nat.le_refl _) _
      have hx1:=heap_alloc_new wr (.cells #[.slice ua rs.length uc,.bool p.x.other,.int .i64 (p.rule:Int),.bool p.last,.int .u64 p.be.a,.int .u64 p.be.c] 158)
      have hW1:=hW.below hb1
      have hrow1:=Rf.own_same (w':=wr.alloc (.cells #[.slice ua rs.length uc,.bool p.x.other,.int .i64 (p.rule:Int),.bool p.last,.int .u64 p.be.a,.int .u64 p.be.c] 158)) hrow (fun j e=>hb1.block j (hrow.lt j e).2)
      have HH:Hid _:=And.intro hW1 (And.intro hx1 hrow1)
      clear hW1 hx1 hrow1 hrw
      have hbh:=bhas_any (wr.alloc (.cells #[.slice ua rs.length uc,.bool p.x.other,.int .i64 (p.rule:Int),.bool p.last,.int .u64 p.be.a,.int .u64 p.be.c] 158)) x k (by omega)
      cases hxk:x.has k with
      | false =>
        rw [hxk] at hbh
        have HX:Hid _:=hxk
        clear hxk
        go_wp2_with (go_at_call 106;refine hbh.mono ?_;rintro e w2 ⟨rfl,hb2⟩)
        refine ⟨⟨k + 1,by go_num,by omega,(HH.out.1.below hb2).skip hp (by rw [HX.out];rfl)⟩,by simp [intOf];omega⟩
      | true =>
        rw [hxk] at hbh
        have HX:Hid _:=hxk
        clear hxk
        cases hic:G.inV p.x c with
        | false =>
          go_wp2_with (first
            | (go_at_call 84;refine hhas.mono ?_;rintro e w3 ⟨rfl,hb3⟩)
            | (go_at_call 106
               refine hbh.mono ?_
               rintro e w2 ⟨rfl,hb2⟩
               have hW2:=HH.out.1.below hb2
               have hx2:=(hb2.block wr.heap.size (by simp)).trans HH.out.2.1
               have hrow2:=Rf.own_same HH.out.2.2 (fun j e=>hb2.block j (HH.out.2.2.lt j e).2)
               have e0:=Rf.cell_blk hx2 0 (.slice ua rs.length uc) rfl
               have e1:=Rf.cell_blk hx2 1 (.bool p.x.other) rfl
               have t2:=Rf.cell_blk hW2.hs 2 (.int .i32 c) rfl
               have hhas:=has_any w2 p.x.ranges p.x.other (.agg #[.slice ua rs.length uc,.bool p.x.other]) ⟨_,rs,rfl,hrow2,hok⟩ c
               rw [hasB_in,hic] at hhas
               have H2:Hid _:=And.intro hW2 hx2
               clear hW2 hx2 hrow2))
          refine ⟨⟨k + 1,by go_num,by omega,(H2.out.1.below hb3).skip hp (by rw [hic,Bool.and_false])⟩,by simp [intOf];omega⟩
        | true =>
          have hcond:(x.has k && G.inV p.x c)=true:=by rw [HX.out,hic];rfl
          have HC:Hid _:=hcond
          clear hcond
          go_wp2_with (first
            | (go_at_call 105
               refine hor.mono ?_
               rintro e w4 ⟨rfl,hb4⟩
               have hW4:=H3.out.1.below hb4
               have hx4:=(hb4.block wr.heap.size (lt_of_block H3.out.2)).trans H3.out.2
               have i2:=Rf.cell_blk hx4 2 (.int .i64 (p.rule:Int)) rfl
               have i3:=Rf.cell_blk hx4 3 (.bool p.last) rfl
               have j0:=Rf.cell_blk hW4.ho 0 (.int .u64 (woTo P x c k).1.a) rfl
               have j1:=Rf.cell_blk hW4.ho 1 (.int .u64 (woTo P x c k).1.c) rfl
               have j2:=Rf.cell_blk hW4.ho 2 (.int .i64 (woTo P x c k).2) rfl
               have fz:=fun o=>Rf.free_blk hW4.ho o
               have hl4:=lt_of_block hW4.ho
               have hl5:=lt_of_block hx4
               have hne:¬ wr.heap.size=w.heap.size + 2:=(by omega)
               have H4:Hid _:=hW4
               clear hW4 hx4)
            | (go_at_call 84
               refine hhas.mono ?_
               rintro e w3 ⟨rfl,hb3⟩
               have hW3:=H2.out.1.below hb3
               have hx3:=(hb3.block wr.heap.size (lt_of_block H2.out.2)).trans H2.out.2
               have g4:=Rf.cell_blk hx3 4 (.int .u64 p.be.a) rfl
               have g5:=Rf.cell_blk hx3 5 (.int .u64 p.be.c) rfl
               have k0:=Rf.cell_blk hW3.ho 0 (.int .u64 (woTo P x c k).1.a) rfl
               have k1:=Rf.cell_blk hW3.ho 1 (.int .u64 (woTo P x c k).1.c) rfl
               have hor:=bor_any w3 (woTo P x c k).1 p.be
               have H3:Hid _:=And.intro hW3 hx3
               clear hW3 hx3)
            | (go_at_call 106
               refine hbh.mono ?_
               rintro e w2 ⟨rfl,hb2⟩
               have hW2:=HH.out.1.below hb2
               have hx2:=(hb2.block wr.heap.size (by simp)).trans HH.out.2.1
               have hrow2:=Rf.own_same HH.out.2.2 (fun j e=>hb2.block j (HH.out.2.2.lt j e).2)
               have e0:=Rf.cell_blk hx2 0 (.slice ua rs.length uc) rfl
               have e1:=Rf.cell_blk hx2 1 (.bool p.x.other) rfl
               have t2:=Rf.cell_blk hW2.hs 2 (.int .i32 c) rfl
               have hhas:=has_any w2 p.x.ranges p.x.other (.agg #[.slice ua rs.length uc,.bool p.x.other]) ⟨_,rs,rfl,hrow2,hok⟩ c
               rw [hasB_in,hic] at hhas
               have H2:Hid _:=And.intro hW2 hx2
               clear hW2 hx2 hrow2))
          · exact ⟨⟨k + 1,by go_num,by omega,H4.out.putR hp HC.out (by rw [‹p.last=true›];simpa using ‹((woTo P x c k).2 == -1)=true›)⟩,by simp [intOf];omega⟩
          · exact ⟨⟨k + 1,by go_num,by omega,H4.out.put hp HC.out (by rw [‹p.last=true›];simpa using ‹((woTo P x c k).2 == -1)=false›)⟩,by simp [intOf];omega⟩
          · exact ⟨⟨k + 1,by go_num,by omega,H4.out.put hp HC.out (by rw [show p.last=false by simpa using ‹¬ p.last=true›];rfl)⟩,by simp [intOf];omega⟩
    · have e:k=P.length:=by omega
      subst e
      have o0:=Rf.cell_blk hW.ho 0 _ rfl
      have o1:=Rf.cell_blk hW.ho 1 _ rfl
      have o2:=Rf.cell_blk hW.ho 2 _ rfl
      have r0:=Rf.cell_blk hW.hr 0 _ rfl
      have r1:=Rf.cell_blk hW.hr 1 _ rfl
      have r2:=Rf.cell_blk hW.hr 2 _ rfl
      have fr:=fun o=>Rf.free_blk hW.hr o
      have HW:Hid _:=hW
      clear hW
      go_wp2
      refine bodyPost_ret (v:=outV (wo P x c)) (by simp [results,Tryz.results120,go_sem,r0,r1,r2,wo]) rfl ⟨rfl,?_⟩
      exact ((HW.out.be.setCell (by simp) _).setCell (by simp) _).setCell (by simp) _
end Pr
end Go.Proofs.YtpgcidpghmoibaaGreatDoor

namespace Go.Proofs.YtpgcidpghmoibaaGreatDoor
namespace Pr
open Go.RowKit
open Go.Maps (Keyed)
open Go.WideElems (Fit)
open G (PNode)
theorem stepRow:(171:TypeId) < Tryz.prog.types.size:=of_decide_eq_true (by kernel_rfl)
theorem stepDeep:Tryz.prog.keyTypeAt (Tryz.prog.types.size + 1) 171=true:=by kernel_rfl
theorem stepWide:(match Tryz.prog.underlying 171 with | some (.array _ _) | some (.struct _)=>true | _=>false)=true:=by kernel_rfl
theorem laidOut7:laidOutB Tryz.prog=true:=by kernel_rfl
set_option maxRecDepth 100000 in
theorem stepLaw:Keyed Tryz.prog 171:=Keyed.of_law (deep_law_laid laidOut7 (m:=4) (by omega) stepRow (by kernel_rfl) stepWide)
theorem cellsStep:Tryz.prog.cellsOf 171=3:=by kernel_rfl
theorem cellsBits:Tryz.prog.cellsOf 153=2:=by kernel_rfl
theorem cellsU64:Tryz.prog.cellsOf 151=1:=by kernel_rfl
theorem cellsI32:Tryz.prog.cellsOf 21=1:=by kernel_rfl
theorem typesLots:∃ n,Tryz.prog.types.size + 1=n + 3:=⟨Tryz.prog.types.size - 2,by have:3≤Tryz.prog.types.size:=of_decide_eq_true (by kernel_rfl);omega⟩
set_option maxRecDepth 100000 in
theorem stepKey (x:PB) (hx:x.Ok) (c:Int) (hc:-2147483648≤c∧c≤2147483647):∃ kl,keyOf Tryz.prog 171 (stepV x c)=some kl:=by
  obtain ⟨a,b,ha,hb,rfl⟩:=hx
  obtain ⟨n,hn⟩:=typesLots
  have wa:(Lit.int .u64 (a:Int)).wf=true:=by simp [Lit.wf,IntKind.min,IntKind.max,IntKind.signed,IntKind.bits];omega
  have wb:(Lit.int .u64 (b:Int)).wf=true:=by simp [Lit.wf,IntKind.min,IntKind.max,IntKind.signed,IntKind.bits];omega
  have wc:(Lit.int .i32 c).wf=true:=by simp [Lit.wf,IntKind.min,IntKind.max,IntKind.signed,IntKind.bits];omega
  have hl:Tryz.prog.keyLits (n + 3) 171 [.int .u64 (a:Int),.int .u64 (b:Int),.int .i32 c]=some [.int .u64 (a:Int),.int .u64 (b:Int),.int .i32 c]:=by
    simp [Program.keyLits,Tryz.underlying171,Tryz.underlying153,Tryz.underlying151,Tryz.underlying21,cellsStep,cellsBits,cellsU64,cellsI32,wa,wb,wc,List.range_succ]
  refine ⟨.string (keyBytes [.int .u64 (a:Int),.int .u64 (b:Int),.int .i32 c]),?_⟩
  unfold keyOf
  rw [Tryz.underlying171]
  simp only
  have hf:(stepV ⟨(a:Int),(b:Int)⟩ c).formed Tryz.prog 171=true:=by
    simp [Value.formed,Tryz.underlying171,cellsStep]
  have hk:Tryz.prog.keyType 171=true:=stepDeep
  have hcl:(stepV ⟨(a:Int),(b:Int)⟩ c).cells.toList=[.int .u64 (a:Int),.int .u64 (b:Int),.int .i32 c]:=rfl
  rw [hk,hf,hn,hcl,hl,Bool.and_self,if_pos rfl,Option.map_some]
def Memo (w:World) (bm n:Nat) (P:List Pl):Prop:=
  ∃ es clock,w.heap[bm]?=some (.map es clock)∧Fit Tryz.prog 171 heldR es clock∧es.size≤n∧∀ e ∈ es.toList,∀ x c,e.key=stepV x c→e.val=outV (wo P x c)
theorem Memo.lt {w:World} {bm n:Nat} {P:List Pl} (h:Memo w bm n P):bm < w.heap.size:=by
  obtain ⟨es,clock,hb,_⟩:=h
  exact (Array.getElem?_eq_some_iff.1 hb).1
theorem Memo.same {w w':World} {bm n:Nat} {P:List Pl} (h:Memo w bm n P) (hk:w'.heap[bm]?=w.heap[bm]?):Memo w' bm n P:=by
  obtain ⟨es,clock,hb,h1⟩:=h
  exact ⟨es,clock,hk.trans hb,h1⟩
theorem Memo.below {w w':World} {bm n:Nat} {P:List Pl} (h:Memo w bm n P) (hb:Below w.heap.size w w'):Memo w' bm n P:=h.same (hb.block bm h.lt)
theorem Memo.mono {w:World} {bm n n':Nat} {P:List Pl} (h:Memo w bm n P) (hn:n≤n'):Memo w bm n' P:=by
  obtain ⟨es,clock,hb,h1,h2,h3⟩:=h
  exact ⟨es,clock,hb,h1,Nat.le_trans h2 hn,h3⟩
theorem zeroOut (w:World):(zeroValue 168).run Tryz.prog w=.ok (.agg #[.int .u64 0,.int .u64 0,.int .i64 0]) w:=by kernel_rfl
theorem Memo.look {w:World} {bm n:Nat} {P:List Pl} (h:Memo w bm n P) (x:PB) (hx:x.Ok) (c:Int) (hc:-2147483648≤c∧c≤2147483647) :
    (∀ w':World,w'.heap[bm]?=w.heap[bm]?→(Instr.lookup 164 (.map (some bm)) (stepV x c) true).run Tryz.prog w'=.ok (.tuple #[.agg #[.int .u64 0,.int .u64 0,.int .i64 0],.bool false]) w') ∨
    (∀ w':World,w'.heap[bm]?=w.heap[bm]?→(Instr.lookup 164 (.map (some bm)) (stepV x c) true).run Tryz.prog w'=.ok (.tuple #[outV (wo P x c),.bool true]) w'):=by
  obtain ⟨es,clock,hb,F,_,h3⟩:=h
  obtain ⟨kl,hkl⟩:=stepKey x hx c hc
  by_cases hex:∃ e ∈ es.toList,e.key=stepV x c
  · refine .inr (fun w' hw=>?_)
    obtain ⟨e,he1,he2⟩:=hex
    rcases Maps.fit_look true stepLaw Tryz.underlying164 (zeroOut w') (hw.trans hb) F hkl with ⟨_,h,_⟩ | ⟨e0,y,h1,h2,h,_⟩
    · exact absurd he2 (h e he1)
    · rw [h3 e0 h1 x c h2] at h
      exact h
  · refine .inl (fun w' hw=>?_)
    rcases Maps.fit_look true stepLaw Tryz.underlying164 (zeroOut w') (hw.trans hb) F hkl with ⟨h,_⟩ | ⟨e0,y,h1,h2,h,_⟩
    · exact h
    · exact absurd ⟨e0,h1,h2⟩ hex
theorem Memo.store {w:World} {bm n:Nat} {P:List Pl} (h:Memo w bm n P) (hn:n < maxLen) (x:PB) (hx:x.Ok) (c:Int) (hc:-2147483648≤c∧c≤2147483647) :
    ∃ w',(Instr.mapUpdate 164 (.map (some bm)) (stepV x c) (outV (wo P x c))).run Tryz.prog w=.ok () w'∧Memo w' bm (n + 1) P∧w.grownBy w' (some bm):=by
  obtain ⟨es,clock,hb,F,hs,h3⟩:=h
  obtain ⟨kl,hkl⟩:=stepKey x hx c hc
  obtain ⟨es',clock',hrun,F',hput,_,_,hwho⟩:=Maps.fit_store (R':=heldR) (yv:=(.held (outV (wo P x c)),[])) stepLaw Tryz.underlying164 hb F (Nat.lt_of_le_of_lt hs hn) (fun _ _ _ _ hz=>hz) hkl rfl
  refine ⟨_,hrun,⟨es',clock',ChangeMaps.heap_setBlock_same hb _,F',?_,?_⟩,⟨rfl,rfl,rfl,by simp [ChangeMaps.setBlock],fun i _ hi=>ChangeMaps.heap_setBlock_other hb _ (fun e=>hi (by rw [e]))⟩⟩
  · have e1:es'.size=((es'.toList.map (WideElems.rg Tryz.prog 171 heldR)).foldr DataW.insert []).length:=by rw [length_sorted];simp
    rw [e1,hput]
    unfold ChangeMaps.putKey
    rw [length_insert]
    have e2:=List.length_filter_le (ChangeMaps.notKey kl) ((es.toList.map (WideElems.rg Tryz.prog 171 heldR)).foldr DataW.insert [])
    rw [length_sorted] at e2
    simp at e2
    omega
  · intro e he y d hk
    rcases hwho e he with ⟨h1,_⟩ | ⟨h1,h2⟩
    · exact h3 e h1 y d hk
    · rw [h1] at hk
      have:x=y∧c=d:=by
        simp only [stepV,Value.agg.injEq] at hk
        have hk':=congrArg Array.toList hk
        simp only [List.cons.injEq,Value.int.injEq,true_and] at hk'
        cases x;cases y
        simp_all
      obtain ⟨rfl,rfl⟩:=this
      exact h2
theorem Memo.made (w:World) (P:List Pl):Memo (w.alloc (.map #[] 0)) w.heap.size 0 P:=
  ⟨#[],0,heap_alloc_new w _,⟨by simp,⟨by simp,by simp⟩,fun x hx=>by simp at hx⟩,by simp,fun e he=>by simp at he⟩
end Pr
end Go.Proofs.YtpgcidpghmoibaaGreatDoor

namespace Go.Proofs.YtpgcidpghmoibaaGreatDoor
namespace Pr
open Go.RowKit
open Rf (Kept Lies)
open G (PNode)
structure RunAt (w:World) (I:Nat→Prop) (b m bm:Nat) (v:Value) (P:List Pl) (V:List Value) (f:PB):Prop where
  blk:w.heap[b]?=some (.cells #[pv m,.map (some bm)] 166 (0,0))
  ma:MaAt w I m v P V f
  lt:∀ k,I k→k < w.heap.size
  ib:∀ k,k=b ∨ k=m ∨ v.ownBlock=some k ∨ I k→k ≠ bm
theorem RunAt.same {w w':World} {I:Nat→Prop} {b m bm:Nat} {v:Value} {P:List Pl} {V:List Value} {f:PB} (h:RunAt w I b m bm v P V f) (hk:Kept (fun k=>k ≠ bm) w w'):RunAt w' I b m bm v P V f where
  blk:=(hk.block b (lt_of_block h.blk) (h.ib b (.inl rfl))).trans h.blk
  ma:=h.ma.same (fun k e=>by
    rcases e with rfl | e | e
    · exact hk.block _ (lt_of_block h.ma.blk) (h.ib _ (.inr (.inl rfl)))
    · exact hk.block k (h.ma.row.lt k e).2 (h.ib k (.inr (.inr (.inl e))))
    · exact hk.block k (h.lt k e) (h.ib k (.inr (.inr (.inr e)))))
  lt k e:=Nat.lt_of_lt_of_le (h.lt k e) hk.size
  ib:=h.ib
theorem RunAt.below {w w':World} {I:Nat→Prop} {b m bm:Nat} {v:Value} {P:List Pl} {V:List Value} {f:PB} (h:RunAt w I b m bm v P V f) (hb:Below w.heap.size w w'):RunAt w' I b m bm v P V f:=h.same (Kept.of_below hb)
set_option maxRecDepth 100000 in
set_option maxHeartbeats 1000000 in
theorem rtake_any (w:World) (I:Nat→Prop) (b m bm n:Nat) (v:Value) (P:List Pl) (V:List Value) (f:PB) (hR:RunAt w I b m bm v P V f) (hMe:Memo w bm n P) (hn:P.length≤100) (hnn:n < 100000000) (x:PB) (hx:x.Ok) (c:Int) (hc:-2147483648≤c∧c≤2147483647) :
    Calls Tryz.prog 89 #[pv b,stepV x c] w fun e w'=>e=.returned (outV (wo P x c))∧Memo w' bm (n + 1) P∧Kept (fun k=>k ≠ bm) w w':=by
  have r0:=Rf.cell_blk hR.blk 0 (pv m) rfl
  have r1:=Rf.cell_blk hR.blk 1 (.map (some bm)) rfl
  have hbl:=lt_of_block hR.blk
  have hb2:Below w.heap.size w ((w.alloc (.cells #[.int .u64 x.a,.int .u64 x.c,.int .i32 c] 171)).alloc (.cells #[.int .u64 0,.int .u64 0,.int .i64 0] 168)):=((Below.refl _ w).alloc (Nat.le_refl _) _).alloc (by simp) _
  have hs2:((w.alloc (.cells #[.int .u64 x.a,.int .u64 x.c,.int .i32 c] 171)).alloc (.cells #[.int .u64 0,.int .u64 0,.int .i64 0] 168)).heap[w.heap.size]?=_:=Rf.blk_alloc _ (heap_alloc_new w _)
  have ht2:((w.alloc (.cells #[.int .u64 x.a,.int .u64 x.c,.int .i32 c] 171)).alloc (.cells #[.int .u64 0,.int .u64 0,.int .i64 0] 168)).heap[w.heap.size + 1]?=some (.cells #[.int .u64 0,.int .u64 0,.int .i64 0] 168):=by
    have:=heap_alloc_new (w.alloc (.cells #[.int .u64 x.a,.int .u64 x.c,.int .i32 c] 171)) (.cells #[.int .u64 0,.int .u64 0,.int .i64 0] 168)
    rwa [show (w.alloc (.cells #[.int .u64 x.a,.int .u64 x.c,.int .i32 c] 171)).heap.size=w.heap.size + 1 by simp] at this
  have HW:Hid _:=And.intro hb2 (And.intro hs2 ht2)
  clear hb2 hs2 ht2
  go_enter Tryz.func89,Tryz.ntmps89
  go_wp2
  obtain ⟨hb2,hs2,ht2⟩:=HW.out
  clear HW r0 r1
  generalize ((w.alloc (.cells #[.int .u64 x.a,.int .u64 x.c,.int .i32 c] 171)).alloc (.cells #[.int .u64 0,.int .u64 0,.int .i64 0] 168))=w2 at *
  have hR2:=hR.below hb2
  have hM2:=hMe.below hb2
  have r0:=Rf.cell_blk hR2.blk 0 (pv m) rfl
  have r1:=Rf.cell_blk hR2.blk 1 (.map (some bm)) rfl
  have s0:=Rf.cell_blk hs2 0 (.int .u64 x.a) rfl
  have s1:=Rf.cell_blk hs2 1 (.int .u64 x.c) rfl
  have s2:=Rf.cell_blk hs2 2 (.int .i32 c) rfl
  have hbl2:=lt_of_block hR2.blk
  have hsl2:=lt_of_block hs2
  have htl2:=lt_of_block ht2
  have hbm2:=hM2.lt
  have hz2:=hb2.size
  rcases hM2.look x hx c hc with hl | hl
  · have l1:=hl w2.drew rfl
    have l2:=hl (w2.alloc (.cells #[.int .u64 0,.int .u64 0,.int .i64 0] 168)).drew (Below.heap_alloc _ _ _ hbm2)
    clear hl
    have hb3:Below w.heap.size w (w2.alloc (.cells #[.int .u64 0,.int .u64 0,.int .i64 0] 168)).drew:=(hb2.alloc (by omega) _).drew
    have ho3:(w2.alloc (.cells #[.int .u64 0,.int .u64 0,.int .i64 0] 168)).drew.heap[w2.heap.size]?=some (.cells #[.int .u64 0,.int .u64 0,.int .i64 0] 168):=heap_alloc_new w2 _
    have hs3:(w2.alloc (.cells #[.int .u64 0,.int .u64 0,.int .i64 0] 168)).drew.heap[w.heap.size]?=_:=(Below.heap_alloc _ _ _ hsl2).trans hs2
    have ht3:(w2.alloc (.cells #[.int .u64 0,.int .u64 0,.int .i64 0] 168)).drew.heap[w.heap.size + 1]?=_:=(Below.heap_alloc _ _ _ htl2).trans ht2
    have HW:Hid _:=And.intro hb3 (And.intro ho3 (And.intro hs3 ht3))
    clear hb3 ho3 hs3 ht3
    go_region
    all_goals
      go_wp2
      obtain ⟨hb3,ho3,hs3,ht3⟩:=HW.out
      clear l1 l2 HW r0 r1 s0 s1 s2 hR2 hM2
      generalize (w2.alloc (.cells #[.int .u64 0,.int .u64 0,.int .i64 0] 168)).drew=w3 at *
      have hR3:=hR.below hb3
      have hM3:=hMe.below hb3
      have r0:=Rf.cell_blk hR3.blk 0 (pv m) rfl
      have s0:=Rf.cell_blk hs3 0 (.int .u64 x.a) rfl
      have s1:=Rf.cell_blk hs3 1 (.int .u64 x.c) rfl
      have s2:=Rf.cell_blk hs3 2 (.int .i32 c) rfl
      have hWo:=fun (w':World) (hb:Below w3.heap.size w3 w')=>workout_any w' I m v P V f (hR3.below hb).ma (hR3.below hb).lt hn x c
      go_region_with (go_at_call 120;refine (hWo _ (Below.refl _ w3).drew).mono ?_;rintro e w4 ⟨rfl,hb4⟩;have hb34:Below w3.heap.size w3 w4:=(Below.refl _ w3).drew.trans hb4;have ho4:=(hb34.block _ (lt_of_block ho3)).trans ho3;have o0:=Rf.cell_blk ho4 0 (.int .u64 0) rfl;have o1:=Rf.cell_blk ho4 1 (.int .u64 0) rfl;have o2:=Rf.cell_blk ho4 2 (.int .i64 0) rfl;have of4:=fun o=>Rf.free_blk ho4 o)
      all_goals
        have hz3:=hb3.size
        have hb5:Below w.heap.size w (((w4.setCell ⟨w2.heap.size,0,none⟩ (.int .u64 (wo P x c).1.a)).setCell ⟨w2.heap.size,1,none⟩ (.int .u64 (wo P x c).1.c)).setCell ⟨w2.heap.size,2,none⟩ (.int .i64 (wo P x c).2)):=(((hb3.trans (hb34.mono hz3)).setCell (by omega) _).setCell (by omega) _).setCell (by omega) _
        have ho5:(((w4.setCell ⟨w2.heap.size,0,none⟩ (.int .u64 (wo P x c).1.a)).setCell ⟨w2.heap.size,1,none⟩ (.int .u64 (wo P x c).1.c)).setCell ⟨w2.heap.size,2,none⟩ (.int .i64 (wo P x c).2)).heap[w2.heap.size]?=some (.cells #[.int .u64 (wo P x c).1.a,.int .u64 (wo P x c).1.c,.int .i64 (wo P x c).2] 168):=Rf.blk_set (Rf.blk_set (Rf.blk_set ho4 0 _) 1 _) 2 _
        have hs5:(((w4.setCell ⟨w2.heap.size,0,none⟩ (.int .u64 (wo P x c).1.a)).setCell ⟨w2.heap.size,1,none⟩ (.int .u64 (wo P x c).1.c)).setCell ⟨w2.heap.size,2,none⟩ (.int .i64 (wo P x c).2)).heap[w.heap.size]?=_:=(Rf.blk_ne _ (by omega)).trans ((Rf.blk_ne _ (by omega)).trans ((Rf.blk_ne _ (by omega)).trans ((hb34.block _ (lt_of_block hs3)).trans hs3)))
        have ht5:(((w4.setCell ⟨w2.heap.size,0,none⟩ (.int .u64 (wo P x c).1.a)).setCell ⟨w2.heap.size,1,none⟩ (.int .u64 (wo P x c).1.c)).setCell ⟨w2.heap.size,2,none⟩ (.int .i64 (wo P x c).2)).heap[w.heap.size + 1]?=_:=(Rf.blk_ne _ (by omega)).trans ((Rf.blk_ne _ (by omega)).trans ((Rf.blk_ne _ (by omega)).trans ((hb34.block _ (lt_of_block ht3)).trans ht3)))
        have HW:Hid _:=And.intro hb5 (And.intro ho5 (And.intro hs5 ht5))
        clear hb5 ho5 hs5 ht5
        go_wp2
        obtain ⟨hb5,ho5,hs5,ht5⟩:=HW.out
        clear HW o0 o1 o2 of4 r0 s0 s1 s2
        generalize (((w4.setCell ⟨w2.heap.size,0,none⟩ (.int .u64 (wo P x c).1.a)).setCell ⟨w2.heap.size,1,none⟩ (.int .u64 (wo P x c).1.c)).setCell ⟨w2.heap.size,2,none⟩ (.int .i64 (wo P x c).2))=w5 at *
        have hR5:=hR.below hb5
        have r1:=Rf.cell_blk hR5.blk 1 (.map (some bm)) rfl
        have s0:=Rf.cell_blk hs5 0 (.int .u64 x.a) rfl
        have s1:=Rf.cell_blk hs5 1 (.int .u64 x.c) rfl
        have s2:=Rf.cell_blk hs5 2 (.int .i32 c) rfl
        have o0:=Rf.cell_blk ho5 0 (.int .u64 (wo P x c).1.a) rfl
        have o1:=Rf.cell_blk ho5 1 (.int .u64 (wo P x c).1.c) rfl
        have o2:=Rf.cell_blk ho5 2 (.int .i64 (wo P x c).2) rfl
        obtain ⟨w6,hst,hMe6,hg6⟩:=(hMe.below (hb5.drew)).store (by unfold maxLen;omega) x hx c hc
        have hk6:Kept (fun k=>k ≠ bm) w w6:=⟨hg6.os.trans hb5.os,hg6.tape.trans hb5.tape,hg6.output.trans hb5.output,Nat.le_trans hb5.size hg6.size,fun k hk hp=>(hg6.block k (Nat.lt_of_lt_of_le hk hb5.size) (fun e=>hp (by simpa using e))).trans (hb5.block k hk)⟩
        have hnb:bm < w.heap.size:=hMe.lt
        have ho6:=(hg6.block w2.heap.size (lt_of_block ho5) (by simp;omega)).trans ho5
        have ht6:=(hg6.block (w.heap.size + 1) (lt_of_block ht5) (by simp;omega)).trans ht5
        have HW:Hid _:=And.intro hMe6 (And.intro hk6 (And.intro ho6 ht6))
        clear hMe6 hk6 ho6 ht6 hg6
        go_region
        all_goals
          obtain ⟨hMe6,hk6,ho6,ht6⟩:=HW.out
          clear r1 s0 s1 s2 o0 o1 o2 hst
          have p0:=Rf.cell_blk ho6 0 (.int .u64 (wo P x c).1.a) rfl
          have p1:=Rf.cell_blk ho6 1 (.int .u64 (wo P x c).1.c) rfl
          have p2:=Rf.cell_blk ho6 2 (.int .i64 (wo P x c).2) rfl
          have q0:=Rf.cell_blk ht6 0 (.int .u64 0) rfl
          have q1:=Rf.cell_blk ht6 1 (.int .u64 0) rfl
          have q2:=Rf.cell_blk ht6 2 (.int .i64 0) rfl
          have qf:=fun o=>Rf.free_blk ht6 o
          go_wp2
          refine bodyPost_ret (v:=outV (wo P x c)) (by simp [results,Tryz.results89,go_sem,q0,q1,q2]) rfl ⟨rfl,hMe6.same ?_,((hk6.setNew (by simp) _).setNew (by simp) _).setNew (by simp) _⟩
          exact (Rf.blk_ne _ (by omega)).trans ((Rf.blk_ne _ (by omega)).trans (Rf.blk_ne _ (by omega)))
  · have l1:=hl w2.drew rfl
    have l2:=hl (w2.alloc (.cells #[.int .u64 0,.int .u64 0,.int .i64 0] 168)).drew (Below.heap_alloc _ _ _ hbm2)
    clear hl
    have hb3:Below w.heap.size w (w2.alloc (.cells #[.int .u64 (wo P x c).1.a,.int .u64 (wo P x c).1.c,.int .i64 (wo P x c).2] 168)).drew:=(hb2.alloc (by omega) _).drew
    have ho3:(w2.alloc (.cells #[.int .u64 (wo P x c).1.a,.int .u64 (wo P x c).1.c,.int .i64 (wo P x c).2] 168)).drew.heap[w2.heap.size]?=some (.cells #[.int .u64 (wo P x c).1.a,.int .u64 (wo P x c).1.c,.int .i64 (wo P x c).2] 168):=heap_alloc_new w2 _
    have ht3:(w2.alloc (.cells #[.int .u64 (wo P x c).1.a,.int .u64 (wo P x c).1.c,.int .i64 (wo P x c).2] 168)).drew.heap[w.heap.size + 1]?=_:=(Below.heap_alloc _ _ _ htl2).trans ht2
    have HW:Hid _:=And.intro hb3 (And.intro ho3 ht3)
    clear hb3 ho3 ht3
    go_region
    all_goals
      obtain ⟨hb3,ho6,ht6⟩:=HW.out
      clear l1 l2 HW r0 r1 s0 s1 s2 hR2 hM2
      generalize (w2.alloc (.cells #[.int .u64 (wo P x c).1.a,.int .u64 (wo P x c).1.c,.int .i64 (wo P x c).2] 168)).drew=w6 at *
      have hk6:Kept (fun k=>k ≠ bm) w w6:=Kept.of_below hb3
      have hMe6:=hMe.below hb3
      have hnb:bm < w.heap.size:=hMe.lt
      have p0:=Rf.cell_blk ho6 0 (.int .u64 (wo P x c).1.a) rfl
      have p1:=Rf.cell_blk ho6 1 (.int .u64 (wo P x c).1.c) rfl
      have p2:=Rf.cell_blk ho6 2 (.int .i64 (wo P x c).2) rfl
      have q0:=Rf.cell_blk ht6 0 (.int .u64 0) rfl
      have q1:=Rf.cell_blk ht6 1 (.int .u64 0) rfl
      have q2:=Rf.cell_blk ht6 2 (.int .i64 0) rfl
      have qf:=fun o=>Rf.free_blk ht6 o
      go_wp2
      refine bodyPost_ret (v:=outV (wo P x c)) (by simp [results,Tryz.results89,go_sem,q0,q1,q2]) rfl ⟨rfl,(hMe6.mono (Nat.le_succ _)).same ?_,((hk6.setNew (by simp) _).setNew (by simp) _).setNew (by simp) _⟩
      exact (Rf.blk_ne _ (by omega)).trans ((Rf.blk_ne _ (by omega)).trans (Rf.blk_ne _ (by omega)))
end Pr
end Go.Proofs.YtpgcidpghmoibaaGreatDoor
