/-
  THE PROGRAM's READER
  THE PROGRAM's READER
-/
import Derived.Test.YtpgcidpghmoibaaGreatDoorK36
namespace Go.Proofs.YtpgcidpghmoibaaGreatDoor
namespace Pr
open Go.RowKit Go.Maps
open Rf (Kept)
open G (PNode)
theorem set_step {s:ByteArray} {E:List (ByteArray × Nat)} {d:Nat} {r:G.Res} {o:Bool} {rs:List (Nat × Nat)} {i:Nat} {T:List PNode} (h:G.R s E (.set o rs) d i T r) (h93:G.pk s i ≠ 93) :
    match partR s i with
    | .err e p=>r=.err e p
    | .ok a z j=>a≤z∧z≤1114111∧i < j∧j≤s.size∧G.R s E (.set o (rs ++ [(a,z)])) d j T r:=by
  cases h with
  | setEnd h1=>exact absurd h1 h93
  | setErr h1 h2=>rw [partR,h2]
  | setOne h1 h2 h3 h4 =>
    have:=G.chr_bd h2
    rw [partR,h2]
    simp only [if_neg h3]
    exact ⟨Nat.le_refl _,this.2.2,this.1,this.2.1,h4⟩
  | setErr2 h1 h2 h3 h4 =>
    rw [partR,h2]
    simp only [if_pos h3,h4]
  | setErr3 h1 h2 h3 h4 h5 =>
    rw [partR,h2]
    simp only [if_pos h3,h4,if_pos h5]
  | setTwo h1 h2 h3 h4 h5 h6 =>
    have b1:=G.chr_bd h2
    have b2:=G.chr_bd h4
    rw [partR,h2]
    simp only [if_pos h3,h4,if_neg (Nat.not_lt.2 h5)]
    exact ⟨h5,b2.2.2,by omega,b2.2.1,h6⟩
theorem set_end {s:ByteArray} {E:List (ByteArray × Nat)} {d:Nat} {r:G.Res} {o:Bool} {rs:List (Nat × Nat)} {i:Nat} {T:List PNode} (h:G.R s E (.set o rs) d i T r) (h93:G.pk s i=93):r=.ok T.length (i + 1) (T ++ [G.mk T 115 rs o []]):=by
  cases h with
  | setEnd h1=>rfl
  | setErr h1 _=>exact absurd h93 h1
  | setOne h1 _ _ _=>exact absurd h93 h1
  | setErr2 h1 _ _ _=>exact absurd h93 h1
  | setErr3 h1 _ _ _ _=>exact absurd h93 h1
  | setTwo h1 _ _ _ _ _=>exact absurd h93 h1
def SInv (w0:World) (b:Nat) (s:ByteArray) (c:C) (bm:Nat) (vR:Value) (I:Nat→Prop) (T:List PNode) (B:List Nat) (E:List (ByteArray × Nat)) (d:Nat) (r:G.Res) (o:Bool) (v:Value) (wr:World):Prop:=
  ∃ rs i1,PS wr b s { c with i:=i1 } bm vR I T B E∧wr.ownsRow w0.heap.size 197 2 v rs.length (rc rs)∧Gr b w0 wr∧(∀ r ∈ rs,r.1≤r.2∧r.2≤1114111)∧rs.length≤i1∧G.R s E (.set o rs) d i1 T r
theorem infoRr:(Tryz.prog.info? 197).map (fun i=>(i.zero,i.size,i.bytes))=some (some (.agg #[.int .i32 0,.int .i32 0]),2,8):=by kernel_rfl
theorem two_row (wr:World) (o:Obj) (a z:Nat):∀ j u,([.int .i32 (a:Int),.int .i32 (z:Int)]:List Value)[j]?=some u→((wr.alloc o).alloc (.cells #[.int .i32 (a:Int),.int .i32 (z:Int)] 197)).cell? ((⟨wr.heap.size + 1,0,none⟩:Addr).add j)=some u:=by
  have h:=World.news_of_block (cs:=#[.int .i32 (a:Int),.int .i32 (z:Int)]) (t:=197) (fr:=(0,0)) (heap_alloc_new (wr.alloc o) (.cells #[.int .i32 (a:Int),.int .i32 (z:Int)] 197))
  rw [show (wr.alloc o).heap.size=wr.heap.size + 1 by simp] at h
  exact h
theorem row_push {w0 W w6:World} {b:Nat} {s:ByteArray} {c:C} {bm:Nat} {vR:Value} {I:Nat→Prop} {T:List PNode} {B:List Nat} {E:List (ByteArray × Nat)} {o:Obj} {v:Value} {n:Nat} {xs:List Value}
    (hP:PS W b s c bm vR I T B E) (hB:Base w0.heap.size b bm) (hI:∀ k,I k→k < w0.heap.size) (hr:W.ownsRow w0.heap.size 197 2 v n xs) (hg:(W.alloc o).grownBy w6 v.ownBlock) (hG:Gr b w0 W):PS w6 b s c bm vR I T B E∧Gr b w0 w6:=by
  have hk:∀ k,v.ownBlock=some k→w0.heap.size≤k:=fun k e=>(hr.lt k e).1
  have hb:=hB.b
  have hm:=hB.m
  exact ⟨grow_ps hP hg (fun k e h2=>by have:=hk k e;have:=hI k h2;omega) (fun e=>by have:=hk b e;omega) (fun e=>by have:=hk bm e;omega) (fun k e=>hB.t k (hk k e)),grow_gr hG (Nat.le_refl _) hk hg⟩
set_option maxRecDepth 100000 in
set_option maxHeartbeats 4000000 in
theorem set_not (w:World) (b:Nat) (s:ByteArray) (c:C) (bm:Nat) (vR:Value) (I:Nat→Prop) (T:List PNode) (B:List Nat) (E:List (ByteArray × Nat)) (d:Nat) (r:G.Res) (h:PS w b s c bm vR I T B E) (hlt:c.i < s.size) (h94:G.pk s (c.i + 1)=94) (hr:G.R s E (.set true []) d (c.i + 2) T r) :
    Calls Tryz.prog 157 #[.pointer (some ⟨b,0,none⟩)] w fun e w'=>RPost w b s c bm vR I B E r e w':=by
  obtain ⟨i0,hi,hz0,hz1,hz2⟩:=info_parts infoRr
  obtain ⟨c0,c1,c2,c3,c4,c5,c6,fr⟩:=h.rb.reads
  have hs:=h.sz
  have hB:=h.base
  have hIw:=h.tr.lt
  have hlt2:=G.lt_of_pk (s:=s) (i:=c.i + 1) (by omega)
  have hPk0:=peek_any _ b s _ _ vR h.rb.inc hs hlt
  rw [show pkV s ({ c with i:=c.i + 1 }:C).i=94 from (pkV_eq (by omega)).2 h94] at hPk0
  go_enter Tryz.func157,Tryz.ntmps157
  go_wp2_with (first
    | (go_at_call 98;refine hPk0.mono ?_;rintro e wa ⟨rfl,na,rfl⟩;have HST:Hid _:=(h.rb.inc.drewN na).inc;clear c0 c1 c2 c3 c4 c5 c6 fr;obtain ⟨c0,c1,c2,c3,c4,c5,c6,fr⟩:=(h.rb.inc.drewN na).reads))
  go_loopw [4] (fun v wr=>SInv w b s c bm vR I T B E d r true v wr) (fun _ wr=>s.size - posOf b wr)
  case atStart=>exact ⟨[],c.i + 2,h.step (Gr.set (Kept.drewN (Gr.set (Kept.refl _ w) _ _) _) _ _) HST.out hlt2,World.ownsRow_nil _ _ _ _,Gr.set (Kept.drewN (Gr.set (Kept.refl _ w) _ _) _) _ _,by simp,by simp,hr⟩
  case round =>
    obtain ⟨rs,i1,hP,hL,hG,hrs,hpl,hR⟩:=hrel
    have HP:Hid (posOf b wr=i1):=hP.rb.pos
    have hi1:i1≤s.size:=hP.ci
    have hszl:=hG.size
    obtain ⟨pa,pc,hpe⟩:=Rf.own_len hL
    subst hpe
    have hPk:=peek_any wr b s _ _ vR hP.rb hs hi1
    change Calls _ _ _ _ (fun r w'=>r=.returned (.int .u8 (pkV s i1))∧_) at hPk
    have hDr:∀ n,Gr b wr (wr.drewN n):=fun n=>Kept.drewN (Kept.refl _ wr) n
    by_cases h93:G.pk s i1=93
    · obtain rfl:=set_end hR h93
      rw [(pkV_eq (by omega)).2 h93] at hPk
      have hlt1:=G.lt_of_pk (s:=s) (i:=i1) (by omega)
      clear hR
      go_wp2_with (first
        | (go_at_call 153
           refine hN4.mono ?_
           rintro e w4 ⟨a,rfl,ha4,hblk4,hb4⟩
           have hb24:=below_then hb3 hb4
           obtain ⟨I4,hP4,hX4,_,hbl4⟩:=leaf_ps hP2 hb24 (Nat.le_trans hb3.size ha4) hblk4 (own_same_at ho3 (fun k e=>hb4.block k (ho3.lt k e).2)) hok3 (fun r hr=>⟨by have:=hrs r hr;omega,(hrs r hr).2⟩) (LocP.nil _ w2.heap.size I B) (by simp)
           have HL4:Hid _:=And.intro hP4 (And.intro hX4 (And.intro hbl4 ((hG.trans hG2).trans (Gr.below hb24))))
           clear hP4 hX4 hbl4 hblk4 ha4 hb4 hb24 ho3 hok3 hb3 hN4 hN3)
        | (go_at_call 154;refine hN3.mono ?_;rintro e w3 ⟨vs,rfl,⟨vr,rs',rfl,ho3,hok3⟩,hb3⟩;have hN4:=leaf_any w3 vr true (by obtain ⟨z1,z2,z3⟩:=Rf.own_len ho3;exact ⟨z1,_,z2,z3⟩))
        | (go_at_call 125;refine (step_any (wr.drewN n) b s _ _ vR 1 (hP.rb.drewN n) hs hlt1).mono ?_;rintro e w2 ⟨rfl,hR2,hE2⟩;have hG2:Gr b wr w2:=(hDr n).trans hE2.kept;have hP2:=hP.step hG2 hR2 (G.skip_le s _ hlt1);have hN3:=except_any w2 rs (.slice pa rs.length pc) (own_low (own_same_at hL (fun k e=>hG2.block k (hL.lt k e).2 (by have:=(hL.lt k e).1;have:=hB.b;omega))) (Nat.zero_le _)) (by omega) (fun r hr=>(hrs r hr).1) (fun r hr=>(hrs r hr).2))
        | (go_at_call 98;refine hPk.mono ?_;rintro e w1 ⟨rfl,n,rfl⟩))
      go_ret
      obtain ⟨q1,q2,q3,q4⟩:=HL4.out
      exact ⟨q4,I4,B ++ [a],by rw [q3];rfl,q1,q2.low (hG.trans hG2).size⟩
    · have hne:¬ pkV s i1=93:=pkV_ne (by omega) h93
      generalize pkV s i1=p at hPk hne
      have hnb:(p != 93)=true:=by simpa using hne
      have hst:=set_step hR h93
      have hPt:∀ n,_:=fun n=>part_any (wr.drewN n) b s _ _ vR (hP.rb.drewN n) hs hi1 (hP.tab.gr (hDr n) hP.own) hP.own
      simp only at hPt
      clear hR h93 hne
      cases hc:partR s i1 with
      | err er pl =>
        simp only [hc] at hPt hst
        subst hst
        clear hc
        go_wp2_with (first
          | (go_at_call 163;refine (hPt n).mono ?_;rintro e w2 ⟨hg2,x,y,i',d',rfl,hR2⟩)
          | (go_at_call 98;refine hPk.mono ?_;rintro e w1 ⟨rfl,n,rfl⟩))
        go_ret
        exact ⟨((hG.trans (hDr n)).trans hg2).trans (Gr.below (below_made w2 _)),rfl,_,_,hR2.below (below_made w2 _)⟩
      | ok a z j =>
        simp only [hc] at hPt hst
        clear hc
        obtain ⟨t1,t2,t3,t4,t5⟩:=hst
        have HR:Hid _:=t5
        clear t5
        go_wp2_with (first
          | (at_builtin
             refine wpList_append_own_at _ rfl (.tmp 34) (.tmp 36) 145 rfl w.heap.size 197 i0 (.agg #[.int .i32 0,.int .i32 0]) 2 8 Tryz.underlying145 hi hz0 hz1 hz2 rfl (by decide) (.slice pa rs.length pc) rs.length (rc rs) rfl ((HL2.out.1.alloc _).alloc _) ⟨w2.heap.size + 1,0,none⟩ 1 1 [.int .i32 (a:Int),.int .i32 (z:Int)] rfl rfl (two_row w2 _ a z) (renc_one (a,z)) (by unfold maxLen;omega) (by omega) (by have:=hbw2;simp;omega) ?_
             intro v1 w6 hn1 hg1 _ hat1
             have HPU:Hid _:=And.intro hn1 (row_push (w0:=w) (HL2.out.2.1.below (below_made w2 _)) hB hIw (HL2.out.1.alloc _) hg1 (HL2.out.2.2.trans (Gr.below (below_made w2 _))))
             clear hn1 hg1 hat1)
          | (go_at_call 163;refine (hPt n).mono ?_;rintro e w2 ⟨hg2,rfl,hR2⟩;have hG2:Gr b wr w2:=(hDr n).trans hg2;have hbw2:w.heap.size≤w2.heap.size:=Nat.le_trans hszl hG2.size;have HL2:Hid _:=And.intro (own_same_at hL (fun k e=>hG2.block k (hL.lt k e).2 (by have:=(hL.lt k e).1;have:=hB.b;omega))) (And.intro (hP.step hG2 hR2 t4) (hG.trans hG2));clear hg2 hR2)
          | (go_at_call 98;refine hPk.mono ?_;rintro e w1 ⟨rfl,n,rfl⟩))
        have hQ:SInv w b s c bm vR I T B E d r true v1 w6:=by
          refine ⟨rs ++ [(a,z)],j,HPU.out.2.1,?_,HPU.out.2.2,?_,by simp;omega,HR.out⟩
          · rw [rc_snoc]
            have:=HPU.out.1
            simpa [renc] using this
          · intro q hq
            rcases List.mem_append.1 hq with hq | hq
            · exact hrs q hq
            · simp only [List.mem_singleton] at hq
              subst hq
              exact ⟨t1,t2⟩
        refine ⟨hQ,?_⟩
        rw [HP.out,HPU.out.2.1.rb.pos]
        show s.size - j < _
        omega
set_option maxRecDepth 100000 in
set_option maxHeartbeats 4000000 in
theorem set_plain (w:World) (b:Nat) (s:ByteArray) (c:C) (bm:Nat) (vR:Value) (I:Nat→Prop) (T:List PNode) (B:List Nat) (E:List (ByteArray × Nat)) (d:Nat) (r:G.Res) (h:PS w b s c bm vR I T B E) (hlt:c.i < s.size) (h94:G.pk s (c.i + 1) ≠ 94) (hr:G.R s E (.set false []) d (c.i + 1) T r) :
    Calls Tryz.prog 157 #[.pointer (some ⟨b,0,none⟩)] w fun e w'=>RPost w b s c bm vR I B E r e w':=by
  obtain ⟨i0,hi,hz0,hz1,hz2⟩:=info_parts infoRr
  obtain ⟨c0,c1,c2,c3,c4,c5,c6,fr⟩:=h.rb.reads
  have hs:=h.sz
  have hB:=h.base
  have hIw:=h.tr.lt
  have hPk0:=peek_any _ b s _ _ vR h.rb.inc hs hlt
  have hne0:¬ pkV s (c.i + 1)=94:=pkV_ne (by omega) h94
  change Calls _ _ _ _ (fun r w'=>r=.returned (.int .u8 (pkV s (c.i + 1)))∧_) at hPk0
  generalize pkV s (c.i + 1)=p0 at hPk0 hne0
  have hnb0:(p0 == 94)=false:=by simpa using hne0
  clear hne0
  go_enter Tryz.func157,Tryz.ntmps157
  go_wp2_with (first
    | (go_at_call 98;refine hPk0.mono ?_;rintro e wa ⟨rfl,na,rfl⟩))
  go_loopw [4] (fun v wr=>SInv w b s c bm vR I T B E d r false v wr) (fun _ wr=>s.size - posOf b wr)
  case atStart=>exact ⟨[],c.i + 1,h.step (Kept.drewN (Gr.set (Kept.refl _ w) _ _) _) (h.rb.inc.drewN _) hlt,World.ownsRow_nil _ _ _ _,Kept.drewN (Gr.set (Kept.refl _ w) _ _) _,by simp,by simp,hr⟩
  case round =>
    obtain ⟨rs,i1,hP,hL,hG,hrs,hpl,hR⟩:=hrel
    have HP:Hid (posOf b wr=i1):=hP.rb.pos
    have hi1:i1≤s.size:=hP.ci
    have hszl:=hG.size
    obtain ⟨pa,pc,hpe⟩:=Rf.own_len hL
    subst hpe
    have hPk:=peek_any wr b s _ _ vR hP.rb hs hi1
    change Calls _ _ _ _ (fun r w'=>r=.returned (.int .u8 (pkV s i1))∧_) at hPk
    have hDr:∀ n,Gr b wr (wr.drewN n):=fun n=>Kept.drewN (Kept.refl _ wr) n
    by_cases h93:G.pk s i1=93
    · obtain rfl:=set_end hR h93
      rw [(pkV_eq (by omega)).2 h93] at hPk
      have hlt1:=G.lt_of_pk (s:=s) (i:=i1) (by omega)
      clear hR
      go_wp2_with (first
        | (go_at_call 153
           refine hN4.mono ?_
           rintro e w4 ⟨a,rfl,ha4,hblk4,hb4⟩
           have hb24:=below_then hb3 hb4
           obtain ⟨I4,hP4,hX4,_,hbl4⟩:=leaf_ps hP2 hb24 (Nat.le_trans hb3.size ha4) hblk4 (own_same_at ho3 (fun k e=>hb4.block k (ho3.lt k e).2)) hok3 (fun r hr=>⟨by have:=hrs r hr;omega,(hrs r hr).2⟩) (LocP.nil _ w2.heap.size I B) (by simp)
           have HL4:Hid _:=And.intro hP4 (And.intro hX4 (And.intro hbl4 ((hG.trans hG2).trans (Gr.below hb24))))
           clear hP4 hX4 hbl4 hblk4 ha4 hb4 hb24 ho3 hok3 hb3 hN4 hN3)
        | (go_at_call 161;refine hN3.mono ?_;rintro e w3 ⟨vs,rfl,⟨vr,rs',rfl,ho3,hok3⟩,hb3⟩;have hN4:=leaf_any w3 vr false (by obtain ⟨z1,z2,z3⟩:=Rf.own_len ho3;exact ⟨z1,_,z2,z3⟩))
        | (go_at_call 125;refine (step_any (wr.drewN n) b s _ _ vR 1 (hP.rb.drewN n) hs hlt1).mono ?_;rintro e w2 ⟨rfl,hR2,hE2⟩;have hG2:Gr b wr w2:=(hDr n).trans hE2.kept;have hP2:=hP.step hG2 hR2 (G.skip_le s _ hlt1);have hN3:=of_any w2 rs (.slice pa rs.length pc) (own_low (own_same_at hL (fun k e=>hG2.block k (hL.lt k e).2 (by have:=(hL.lt k e).1;have:=hB.b;omega))) (Nat.zero_le _)) (by omega) (fun r hr=>(hrs r hr).1) (fun r hr=>(hrs r hr).2))
        | (go_at_call 98;refine hPk.mono ?_;rintro e w1 ⟨rfl,n,rfl⟩))
      go_ret
      obtain ⟨q1,q2,q3,q4⟩:=HL4.out
      exact ⟨q4,I4,B ++ [a],by rw [q3];rfl,q1,q2.low (hG.trans hG2).size⟩
    · have hne:¬ pkV s i1=93:=pkV_ne (by omega) h93
      generalize pkV s i1=p at hPk hne
      have hnb:(p != 93)=true:=by simpa using hne
      have hst:=set_step hR h93
      have hPt:∀ n,_:=fun n=>part_any (wr.drewN n) b s _ _ vR (hP.rb.drewN n) hs hi1 (hP.tab.gr (hDr n) hP.own) hP.own
      simp only at hPt
      clear hR h93 hne
      cases hc:partR s i1 with
      | err er pl =>
        simp only [hc] at hPt hst
        subst hst
        clear hc
        go_wp2_with (first
          | (go_at_call 163;refine (hPt n).mono ?_;rintro e w2 ⟨hg2,x,y,i',d',rfl,hR2⟩)
          | (go_at_call 98;refine hPk.mono ?_;rintro e w1 ⟨rfl,n,rfl⟩))
        go_ret
        exact ⟨((hG.trans (hDr n)).trans hg2).trans (Gr.below (below_made w2 _)),rfl,_,_,hR2.below (below_made w2 _)⟩
      | ok a z j =>
        simp only [hc] at hPt hst
        clear hc
        obtain ⟨t1,t2,t3,t4,t5⟩:=hst
        have HR:Hid _:=t5
        clear t5
        go_wp2_with (first
          | (at_builtin
             refine wpList_append_own_at _ rfl (.tmp 34) (.tmp 36) 145 rfl w.heap.size 197 i0 (.agg #[.int .i32 0,.int .i32 0]) 2 8 Tryz.underlying145 hi hz0 hz1 hz2 rfl (by decide) (.slice pa rs.length pc) rs.length (rc rs) rfl ((HL2.out.1.alloc _).alloc _) ⟨w2.heap.size + 1,0,none⟩ 1 1 [.int .i32 (a:Int),.int .i32 (z:Int)] rfl rfl (two_row w2 _ a z) (renc_one (a,z)) (by unfold maxLen;omega) (by omega) (by have:=hbw2;simp;omega) ?_
             intro v1 w6 hn1 hg1 _ hat1
             have HPU:Hid _:=And.intro hn1 (row_push (w0:=w) (HL2.out.2.1.below (below_made w2 _)) hB hIw (HL2.out.1.alloc _) hg1 (HL2.out.2.2.trans (Gr.below (below_made w2 _))))
             clear hn1 hg1 hat1)
          | (go_at_call 163;refine (hPt n).mono ?_;rintro e w2 ⟨hg2,rfl,hR2⟩;have hG2:Gr b wr w2:=(hDr n).trans hg2;have hbw2:w.heap.size≤w2.heap.size:=Nat.le_trans hszl hG2.size;have HL2:Hid _:=And.intro (own_same_at hL (fun k e=>hG2.block k (hL.lt k e).2 (by have:=(hL.lt k e).1;have:=hB.b;omega))) (And.intro (hP.step hG2 hR2 t4) (hG.trans hG2));clear hg2 hR2)
          | (go_at_call 98;refine hPk.mono ?_;rintro e w1 ⟨rfl,n,rfl⟩))
        have hQ:SInv w b s c bm vR I T B E d r false v1 w6:=by
          refine ⟨rs ++ [(a,z)],j,HPU.out.2.1,?_,HPU.out.2.2,?_,by simp;omega,HR.out⟩
          · rw [rc_snoc]
            have:=HPU.out.1
            simpa [renc] using this
          · intro q hq
            rcases List.mem_append.1 hq with hq | hq
            · exact hrs q hq
            · simp only [List.mem_singleton] at hq
              subst hq
              exact ⟨t1,t2⟩
        refine ⟨hQ,?_⟩
        rw [HP.out,HPU.out.2.1.rb.pos]
        show s.size - j < _
        omega
end Pr
end Go.Proofs.YtpgcidpghmoibaaGreatDoor

namespace Go.Proofs.YtpgcidpghmoibaaGreatDoor
namespace Pr
open Go.RowKit Go.Maps
open Rf (Kept)
open G (PNode)
set_option maxRecDepth 100000 in
set_option maxHeartbeats 1000000 in
theorem name_any (w:World) (b:Nat) (s:ByteArray) (c:C) (m vR:Value) (hR:RB w b s c m vR) (hs:s.size≤2000) (hi:c.i < s.size) :
    Calls Tryz.prog 124 #[.pointer (some ⟨b,0,none⟩)] w fun e w'=>e=.returned (.string (G.name s c.i))∧∃ n,w'=w.drewN n:=by
  obtain ⟨c0,c1,c2,c3,c4,c5,c6,fr⟩:=hR.reads
  have h0:(0:Int)≤(c.i:Int) + 1:=by omega
  have h1:(c.i:Int) + 1≤(s.size:Int):=by omega
  have hsz:=extract_size s (c.i + 1) hi
  have hgr:∀ (k:Nat) (hk:k < (s.extract (c.i + 1) s.size).size),((s.extract (c.i + 1) s.size)[k]'hk).toNat=U.at' s (c.i + 1 + k):=by
    intro k hk
    rw [ByteArray.getElem_extract,U.at_get]
  have hcut:∀ k,c.i + 1 + k≤s.size→(s.extract (c.i + 1) s.size).extract 0 k=s.extract (c.i + 1) (c.i + 1 + k):=by
    intro k hk
    rw [ByteArray.extract_extract]
    congr 1
    omega
  have hwr:IntKind.i64.wrap ((c.i:Int) + 1)=(c.i:Int) + 1:=by
    simp [IntKind.wrap,IntKind.bits,IntKind.signed]
    omega
  go_enter Tryz.func124,Tryz.ntmps124
  go_wp2
  refine wp_region_quiet_lit (by kernel_rfl) (by kernel_rfl) ?_
  repeat (first | go_big_quiet_step (fail) | quiet_step (fail))
  refine wpQuiet_nil ?_
  intro _ hw'
  obtain ⟨nq,hw''⟩:=hw'
  subst hw''
  obtain ⟨rest,hrest,hgr2,hcut2⟩:∃ r,r=s.extract (c.i + 1) s.size∧(∀ (k:Nat) (hk:k < r.size),(r[k]'hk).toNat=U.at' s (c.i + 1 + k))∧∀ k,c.i + 1 + k≤s.size→r.extract 0 k=s.extract (c.i + 1) (c.i + 1 + k):=⟨_,rfl,hgr,hcut⟩
  rw [← hrest] at hsz ⊢
  clear hrest hgr hcut
  go_wp2
  go_loopw [4] (fun v wr=>∃ k:Nat,v=.int .i64 k∧k≤rest.size∧G.wend s (c.i + 1 + k)=G.wend s (c.i + 1)∧wr=w.drewN nq) (fun v _=>rest.size - (intOf v).toNat)
  case atStart=>exact ⟨0,rfl,Nat.zero_le _,rfl,rfl⟩
  case round =>
    obtain ⟨k,rfl,hk,hwe,rfl⟩:=hrel
    have HW:Hid _:=hwe
    clear hwe
    by_cases hlow:G.low s (c.i + 1 + k)=true
    · obtain ⟨l1,l2,l3⟩:=(G.low_iff s _).1 hlow
      have hkr:k < rest.size:=by omega
      have hg:=hgr2 k hkr
      have hkr':(k:Int) < (rest.size:Int):=by omega
      have g1:(97:Int)≤((rest[k]'hkr).toNat:Int):=by omega
      have g2:((rest[k]'hkr).toNat:Int)≤122:=by omega
      have HE:=G.wend_step hlow
      have HE2:Hid _:=HE
      clear HE hg hgr2 hlow
      go_wp2
      refine ⟨⟨k + 1,by go_num,by omega,?_,by first | rfl | trivial⟩,by simp [intOf];omega⟩
      rw [← HW.out,HE2.out]
      congr 1
    · have HE:Hid (G.wend s (c.i + 1 + k)=c.i + 1 + k):=G.wend_end hlow
      have hex:Hid (rest.extract 0 k=G.name s c.i):=by
        show rest.extract 0 k=_
        rw [hcut2 k (by omega),G.name,← HW.out,HE.out]
      have hk0:(k:Int)≤(rest.size:Int):=by omega
      by_cases hkr:k < rest.size
      · have hg:=hgr2 k hkr
        have hkr':(k:Int) < (rest.size:Int):=by omega
        have hnl:¬ (97≤U.at' s (c.i + 1 + k)∧U.at' s (c.i + 1 + k)≤122):=fun hh=>hlow ((G.low_iff s _).2 ⟨by omega,hh.1,hh.2⟩)
        rcases (by omega:(rest[k]'hkr).toNat < 97 ∨ (97≤(rest[k]'hkr).toNat∧122 < (rest[k]'hkr).toNat)) with g | ⟨g,g'⟩
        · have g1:¬ (97:Int)≤((rest[k]'hkr).toNat:Int):=by omega
          clear hg hgr2 hlow hcut2 g hnl
          go_wp2
          go_ret
          exact ⟨by rw [← hex.out];rfl,_,rfl⟩
        · have g1:(97:Int)≤((rest[k]'hkr).toNat:Int):=by omega
          have g2:¬ ((rest[k]'hkr).toNat:Int)≤122:=by omega
          clear hg hgr2 hlow hcut2 g g' hnl
          go_wp2
          go_ret
          exact ⟨by rw [← hex.out];rfl,_,rfl⟩
      · have hkr':¬ (k:Int) < (rest.size:Int):=by omega
        clear hgr2 hlow hcut2
        go_wp2
        go_ret
        exact ⟨by rw [← hex.out];rfl,_,rfl⟩
theorem keyLaw:Keyed Tryz.prog 9:=string_keyed Tryz.underlying9
theorem EnvAt.look {w:World} {bm:Nat} {E:List (ByteArray × Nat)} {B:List Nat} (h:EnvAt w bm E B) (nm:ByteArray) (hn:nm.size≤maxLen):(Instr.lookup 140 (.map (some bm)) (.string nm) false).run Tryz.prog w=.ok (envV E B nm) w:=by
  obtain ⟨D,n,h1,_,h3⟩:=h
  obtain ⟨v,ps,hrun,hv⟩:=h1.lookup keyLaw Tryz.underlying140 (Tryz.zeroValue143 w) (zd:=.held (.pointer none)) (zp:=[]) rfl (Go.WideMaps.keyOf_string_mk Tryz.underlying9 hn)
  rw [hrun]
  rw [h3 nm hn] at hv
  simp only [heldR,Option.some.injEq,Prod.mk.injEq,DataW.held.injEq] at hv
  rw [hv.1]
theorem name_size (s:ByteArray) (i:Nat) (hi:i < s.size):(G.name s i).size=G.wend s (i + 1) - (i + 1):=by
  have:=G.wend_le s (i + 1) (by omega)
  simp [G.name,ByteArray.size_extract]
  omega
set_option maxRecDepth 100000 in
set_option maxHeartbeats 1000000 in
theorem use_any (w:World) (b:Nat) (s:ByteArray) (c:C) (bm:Nat) (vR:Value) (I:Nat→Prop) (T:List PNode) (B:List Nat) (E:List (ByteArray × Nat)) (d:Nat) (r:G.Res) (h:PS w b s c bm vR I T B E) (h36:G.pk s c.i=36) (hr:G.R s E .atom d c.i T r) :
    Calls Tryz.prog 155 #[.pointer (some ⟨b,0,none⟩)] w fun e w'=>RPost w b s c bm vR I B E r e w':=by
  have hs:=h.sz
  have hlt:=G.lt_of_pk (s:=s) (i:=c.i) (by omega)
  have hN:=name_any w b s c _ vR h.rb hs hlt
  have hnz:=name_size s c.i hlt
  have hwl:=G.wend_le s (c.i + 1) (by omega)
  have hwg:=G.wend_ge s (c.i + 1)
  obtain ⟨c0,c1,c2,c3,c4,c5,c6,fr⟩:=h.rb.reads
  have hDr:∀ n,Gr b w (w.drewN n):=fun n=>Kept.drewN (Kept.refl _ w) n
  have hlook:∀ n,_:=fun n=>(h.env.kept (w':=w.drewN n) rfl).look (G.name s c.i) (by unfold maxLen;omega)
  have hcase:(G.wend s (c.i + 1)=c.i + 1∧r=.err 2 c.i) ∨ (G.wend s (c.i + 1) ≠ c.i + 1∧((G.lookup E (G.name s c.i)=none∧r=.err 3 c.i) ∨ ∃ n,G.lookup E (G.name s c.i)=some n∧r=.ok n (G.wend s (c.i + 1)) T)):=by
    cases hr with
    | nameForm _ h2=>exact .inl ⟨h2,rfl⟩
    | nameErr _ h2 h3=>exact .inr ⟨h2,.inl ⟨h3,rfl⟩⟩
    | name _ h2 h3=>exact .inr ⟨h2,.inr ⟨_,h3,rfl⟩⟩
    | deep h1=>omega
    | parenErr h1=>omega
    | parenForm h1=>omega
    | paren h1=>omega
    | dot h1=>omega
    | quote h1=>omega
    | setNot h1=>omega
    | set h1=>omega
  clear hr
  rcases hcase with ⟨h2,rfl⟩ | ⟨h2,⟨h3,rfl⟩ | ⟨n0,h3,rfl⟩⟩
  · generalize G.name s c.i=nm at *
    have hemp:nm.toList.isEmpty=true:=by
      rw [← decide_eq_emptyBytes]
      exact decide_eq_true (ByteArray.size_eq_zero_iff.1 (by omega))
    clear hlook
    go_enter Tryz.func155,Tryz.ntmps155
    go_wp2_with (first
      | (go_at_call 124;refine hN.mono ?_;rintro e w1 ⟨rfl,n,rfl⟩)
      | (go_at_call 127;refine (fail_any (w.drewN n) b s c _ vR c.i 2 (h.rb.drewN n)).mono ?_;rintro e w2 ⟨rfl,hR2,hE2⟩))
    go_ret
    exact ⟨(hDr n).trans hE2.kept,rfl,_,_,hR2⟩
  · have hv:envV E B (G.name s c.i)=.pointer none:=by rw [envV,h3]
    rw [hv] at hlook
    clear h3 hv
    generalize G.name s c.i=nm at *
    have hemp:nm.toList.isEmpty=false:=by
      rw [← decide_eq_emptyBytes]
      exact decide_eq_false (fun h=>by rw [h] at hnz;have:(ByteArray.empty).size=0:=rfl;omega)
    go_enter Tryz.func155,Tryz.ntmps155
    go_wp2_with (first
      | (go_at_call 124;refine hN.mono ?_;rintro e w1 ⟨rfl,n,rfl⟩;have hl:=hlook n)
      | (go_at_call 127;refine (fail_any (w.drewN n) b s c _ vR c.i 3 (h.rb.drewN n)).mono ?_;rintro e w2 ⟨rfl,hR2,hE2⟩))
    go_ret
    exact ⟨(hDr n).trans hE2.kept,rfl,_,_,hR2⟩
  · have hv:envV E B (G.name s c.i)=pv (bl B n0):=by rw [envV,h3]
    rw [hv] at hlook
    clear h3 hv
    generalize G.name s c.i=nm at *
    have hemp:nm.toList.isEmpty=false:=by
      rw [← decide_eq_emptyBytes]
      exact decide_eq_false (fun h=>by rw [h] at hnz;have:(ByteArray.empty).size=0:=rfl;omega)
    have hnb:nm.size≤2000:=by omega
    have hst:∀ n,_:=fun n=>step_any (w.drewN n) b s c _ vR (1 + nm.size) (h.rb.drewN n) hs (by omega)
    have he:c.i + (1 + nm.size)=G.wend s (c.i + 1):=by omega
    rw [he] at hst
    have hcast:((1 + nm.size:Nat):Int)=1 + (nm.size:Int):=by omega
    rw [hcast] at hst
    clear hnz hcast he
    go_enter Tryz.func155,Tryz.ntmps155
    go_wp2_with (first
      | (go_at_call 124;refine hN.mono ?_;rintro e w1 ⟨rfl,n,rfl⟩;have hl:=hlook n)
      | (go_at_call 125;refine (hst n).mono ?_;rintro e w2 ⟨rfl,hR2,hE2⟩))
    go_ret
    exact ⟨(hDr n).trans hE2.kept,I,B,rfl,h.step ((hDr n).trans hE2.kept) hR2 (G.skip_le s _ hwl),Ext.refl _ _ _⟩
end Pr
end Go.Proofs.YtpgcidpghmoibaaGreatDoor
