/-
  THE PROGRAM's READER
  THE PROGRAM's READER
-/
import Derived.Test.YtpgcidpghmoibaaGreatDoorK35
namespace Go.Proofs.YtpgcidpghmoibaaGreatDoor
namespace Pr
open Go.RowKit Go.Maps
open Rf (Kept)
open G (PNode)
def QSt (s:ByteArray) (E:List (ByteArray × Nat)) (d:Nat) (r:G.Res) (ps:List Nat) (i:Nat) (T:List PNode):Prop:=
  ((ps=[] ∨ G.pk s i ≠ 39)∧G.R s E (.quote ps) d i T r) ∨ (ps ≠ []∧G.pk s i=39∧r=.ok T.length (i + 1) (T ++ [G.mk T 113 [] false ps]))
theorem QSt.none {s:ByteArray} {E:List (ByteArray × Nat)} {d:Nat} {r:G.Res} {ps:List Nat} {i:Nat} {T:List PNode} (h:G.R s E (.quote ps) d i T r) (hc:G.chr s 39 39 i=none):r=.err 2 i:=by
  cases h with
  | quoteErr _=>rfl
  | quoteEnd h1 _=>rw [hc] at h1;cases h1
  | quoteMore h1 _ _=>rw [hc] at h1;cases h1
theorem QSt.some {s:ByteArray} {E:List (ByteArray × Nat)} {d:Nat} {r:G.Res} {ps:List Nat} {i x j:Nat} {T:List PNode} (h:G.R s E (.quote ps) d i T r) (hc:G.chr s 39 39 i=some (x,j)):QSt s E d r (ps ++ [T.length]) j (T ++ [G.mk T 115 [(x,x)] false []]):=by
  cases h with
  | quoteErr h1=>rw [hc] at h1;cases h1
  | quoteEnd h1 h2 =>
    rw [hc] at h1
    cases h1
    exact .inr ⟨by simp,h2,by simp⟩
  | quoteMore h1 h2 h3 =>
    rw [hc] at h1
    cases h1
    exact .inl ⟨.inr h2,h3⟩
def QInv (w0:World) (b:Nat) (s:ByteArray) (c:C) (bm:Nat) (vR:Value) (I:Nat→Prop) (B:List Nat) (E:List (ByteArray × Nat)) (d:Nat) (r:G.Res) (v:Value) (wr:World):Prop:=
  ∃ ps T1 B1 I1 i1,PS wr b s { c with i:=i1 } bm vR I1 T1 B1 E∧LocP wr w0.heap.size I1 B1 v ps∧Ext w0 I B I1 B1∧Gr b w0 wr∧(∀ p ∈ ps,p < T1.length)∧ps.length≤i1∧QSt s E d r ps i1 T1
theorem leaf_ps {w1 w4:World} {b:Nat} {s:ByteArray} {c:C} {bm:Nat} {vR:Value} {I:Nat→Prop} {T:List PNode} {B:List Nat} {E:List (ByteArray × Nat)} {rs:List (Nat × Nat)} {o:Bool} {vr:Value} {rs':List (Nat × Nat)} {a base:Nat} {v:Value} {ps:List Nat}
    (hP:PS w1 b s c bm vR I T B E) (hb:Below w1.heap.size w1 w4) (ha:w1.heap.size≤a) (hblk:w4.heap[a]?=some (.cells (leafCells vr o) 149 (0,0))) (ho:w4.ownsRow w1.heap.size 197 2 vr rs'.length (rc rs')) (hok:SetOk rs' rs) (hbd:∀ r ∈ rs,r.1≤1114111∧r.2≤1114111) (hL:LocP w1 base I B v ps) (hps:∀ p ∈ ps,p < T.length) :
    ∃ I4,PS w4 b s c bm vR I4 (T ++ [G.mk T 115 rs o []]) (B ++ [a]) E∧Ext w1 I B I4 (B ++ [a])∧LocP w4 base I4 (B ++ [a]) v ps∧bl (B ++ [a]) T.length=a:=by
  obtain ⟨I4,h4,hX⟩:=(hP.below hb).leaf (w0:=w1) hP.base.b hP.base.m ha hblk ho hok hbd
  refine ⟨I4,h4,hX,(hL.below hb).ext hX (fun p hp=>by rw [hP.tr.len];exact hps p hp) (fun k e=>(hL.own.lt k e).2),?_⟩
  rw [← hP.tr.len,bl_new]
theorem lt_snoc' (T:List PNode) (x:PNode) (ps:List Nat) (h:∀ p ∈ ps,p < T.length):∀ p ∈ ps ++ [T.length],p < (T ++ [x]).length:=by
  intro p hp
  rcases List.mem_append.1 hp with hp | hp
  · have:=h p hp
    simp
    omega
  · simp only [List.mem_singleton] at hp
    subst hp
    simp
theorem below_made (w:World) (o:Obj):Below w.heap.size w (w.alloc o):=(Below.refl _ w).alloc (Nat.le_refl _) o
theorem below_then {a b c:World} (h:Below a.heap.size a b) (g:Below b.heap.size b c):Below a.heap.size a c:=h.trans (g.mono h.size)
set_option maxRecDepth 100000 in
set_option maxHeartbeats 4000000 in
theorem quote_any (w:World) (b:Nat) (s:ByteArray) (c:C) (bm:Nat) (vR:Value) (I:Nat→Prop) (T:List PNode) (B:List Nat) (E:List (ByteArray × Nat)) (d:Nat) (r:G.Res) (h:PS w b s c bm vR I T B E) (hlt:c.i < s.size) (hr:G.R s E (.quote []) d (c.i + 1) T r) :
    Calls Tryz.prog 156 #[.pointer (some ⟨b,0,none⟩)] w fun e w'=>RPost w b s c bm vR I B E r e w':=by
  obtain ⟨i0,hi,hz0,hz1,hz2⟩:=info_parts infoP
  obtain ⟨c0,c1,c2,c3,c4,c5,c6,fr⟩:=h.rb.reads
  have hs:=h.sz
  have hB:=h.base
  go_enter Tryz.func156,Tryz.ntmps156
  go_wp2
  go_loopw [3] (fun v wr=>QInv w b s c bm vR I B E d r v wr) (fun _ wr=>s.size - posOf b wr)
  case atStart=>exact ⟨[],T,B,I,c.i + 1,h.step (Gr.set (Kept.refl _ w) _ _) h.rb.inc hlt,LocP.nil _ _ _ _,Ext.refl _ _ _,Gr.set (Kept.refl _ w) _ _,by simp,by simp,.inl ⟨.inl rfl,hr⟩⟩
  case round =>
    obtain ⟨ps,T1,B1,I1,i1,hP,hL,hX,hG,hps,hpl,hst⟩:=hrel
    have HP:Hid (posOf b wr=i1):=hP.rb.pos
    have hi1:i1≤s.size:=hP.ci
    have hszl:=hG.size
    obtain ⟨pa,pc,hpe⟩:=Rf.own_len hL.own
    subst hpe
    clear c0 c1 c2 c3 c4 c5 c6 fr
    have hPk:=peek_any wr b s _ _ vR hP.rb hs hi1
    have hCh:∀ n,_:=fun n=>char_any (wr.drewN n) b s _ _ vR ⟨#[39]⟩ 39 39 (.inl ⟨rfl,rfl,rfl⟩) (hP.rb.drewN n) hs hi1 (hP.tab.below ((Kept.drewN (Kept.refl (fun _=>True) wr) n).all))
    have hDr:∀ n,Gr b wr (wr.drewN n):=fun n=>Kept.drewN (Kept.refl _ wr) n
    change Calls _ _ _ _ (fun r w'=>r=.returned (.int .u8 (pkV s i1))∧_) at hPk
    rcases hst with ⟨hmore,hR⟩ | ⟨hne,h39,rfl⟩
    · cases hc:G.chr s 39 39 i1 with
      | none =>
        obtain rfl:=QSt.none hR hc
        simp only [hc] at hCh
        clear hR hc
        by_cases hps0:ps.length=0
        · have hCh0:=hCh 0
          change Calls _ _ _ wr _ at hCh0
          rw [hps0]
          go_wp2_with (go_at_call 160;refine hCh0.mono ?_;rintro e w1 ⟨hg1,rfl,hR1⟩)
          go_ret
          exact ⟨hG.trans hg1,rfl,_,_,hR1⟩
        · have hne:¬ pkV s i1=39:=pkV_ne (by omega) (by rcases hmore with h | h;exact absurd (by rw [h];rfl) hps0;exact h)
          generalize pkV s i1=p at hPk hne
          have hnb:(p != 39)=true:=by simpa using hne
          have hlb:((ps.length:Int) == 0)=false:=by simpa using hps0
          go_wp2_with (first
            | (go_at_call 160;refine (hCh n).mono ?_;rintro e w2 ⟨hg2,rfl,hR2⟩)
            | (go_at_call 98;refine hPk.mono ?_;rintro e w1 ⟨rfl,n,rfl⟩))
          go_ret
          exact ⟨(hG.trans (hDr n)).trans hg2,rfl,_,_,hR2⟩
      | some q =>
        obtain ⟨x,j⟩:=q
        have hst:=QSt.some hR hc
        have hbd:=G.chr_bd hc
        simp only [hc] at hCh
        clear hR hc
        have HS:Hid _:=hst
        clear hst
        have hmain:∀ (w1:World),Gr b wr w1→RB w1 b s { c with i:=j } (.map (some bm)) vR→PS w1 b s { c with i:=j } bm vR I1 T1 B1 E:=fun w1 hg hR=>hP.step hg hR hbd.2.1
        by_cases hps0:ps.length=0
        · have hCh0:=hCh 0
          change Calls _ _ _ wr _ at hCh0
          have hpn:ps=[]:=by simpa using hps0
          subst hpn
          go_wp2_with (first
            | (at_builtin
               refine wpList_append_own_at _ rfl (.tmp 28) (.tmp 34) 105 rfl w.heap.size 143 i0 (.pointer none) 1 8 Tryz.underlying105 hi hz0 hz1 hz2 rfl (by decide) (.slice pa ([]:List Nat).length pc) ([]:List Nat).length (ptrs (B1 ++ [a]) []) rfl (HL4.out.2.1.own.alloc _) ⟨w4.heap.size,0,none⟩ 1 1 [pv a] rfl rfl (cell_one_new _ _ _) (fun y hy=>by simp at hy;subst hy;rfl) (by unfold maxLen;omega) (by omega) (by have:=hbw4;simp;omega) ?_
               intro v1 w6 hn1 hg1 _ hat1
               have HPU:Hid _:=LocP.push (n:=T1.length) HL4.out.1 hB HL4.out.2.1 (by rw [HL4.out.2.2.2];exact hn1) hg1 hat1
               clear hn1 hg1 hat1)
            | (go_at_call 153
               refine hN4.mono ?_
               rintro e w4 ⟨a,rfl,ha4,hblk4,hb4⟩
               have hb14:=below_then (below_then (below_then hb2 (below_made w2 _)) hb3) hb4
               have hbw4:w.heap.size≤w4.heap.size:=Nat.le_trans (Nat.le_trans hszl HG1.out.1.size) hb14.size
               obtain ⟨I4,hP4,hX4,hL4,hbl4⟩:=leaf_ps HG1.out.2 hb14 (Nat.le_trans (below_then (below_then hb2 (below_made w2 _)) hb3).size ha4) hblk4 (own_low (own_same_at ho3 (fun k e=>hb4.block k (ho3.lt k e).2)) (below_then hb2 (below_made w2 _)).size) hok3 (by simp;omega) (hL.gr HG1.out.1 hB.b) hps
               have HL4:Hid _:=And.intro hP4 (And.intro hL4 (And.intro hX4 hbl4))
               have HBW:Hid _:=hb14
               clear hP4 hX4 hL4 hbl4 hblk4 ha4 hb4 hb14 ho3 hok3 hb3 hb2 hN4 hN3)
            | (go_at_call 161;refine hN3.mono ?_;rintro e w3 ⟨vs,rfl,⟨vr,rs',rfl,ho3,hok3⟩,hb3⟩;have hN4:=leaf_any w3 vr false (by obtain ⟨z1,z2,z3⟩:=Rf.own_len ho3;exact ⟨z1,_,z2,z3⟩))
            | (go_at_call 162;refine (one_any w1 (x:Int)).mono ?_;rintro e w2 ⟨rfl,hb2⟩;have hN3:=of_any (w2.alloc (.cells #[.int .i32 (x:Int),.int .i32 (x:Int)] 197)) [(x,x)] (.slice (some ⟨w2.heap.size,0,none⟩) 1 1) (own_made w2 0 197 2 1 #[.int .i32 (x:Int),.int .i32 (x:Int)] (Nat.zero_le _) rfl (by unfold maxLen;omega)) (by simp) (by simp) (by simp;omega))
            | (go_at_call 160;refine hCh0.mono ?_;rintro e w1 ⟨hg1,rfl,hR1⟩;have HG1:Hid (Gr b wr w1∧PS w1 b s { c with i:=j } bm vR I1 T1 B1 E):=⟨hg1,hmain w1 hg1 hR1⟩;clear hg1 hR1))
          have hQ:QInv w b s c bm vR I B E d r v1 w6:=by
            refine ⟨([]:List Nat) ++ [T1.length],T1 ++ [G.mk T1 115 [(x,x)] false []],B1 ++ [a],I4,j,HPU.out.1,HPU.out.2.1,hX.trans (hG.trans HG1.out.1).size HL4.out.2.2.1,HPU.out.2.2 w (Nat.le_refl _) ((hG.trans HG1.out.1).trans (Gr.below HBW.out)),lt_snoc' _ _ _ hps,?_,HS.out⟩
            simp
            omega
          refine ⟨hQ,?_⟩
          rw [HP.out,HPU.out.1.rb.pos]
          show s.size - j < _
          omega
        · have hne:¬ pkV s i1=39:=pkV_ne (by omega) (by rcases hmore with h | h;exact absurd (by rw [h];rfl) hps0;exact h)
          generalize pkV s i1=p at hPk hne
          have hnb:(p != 39)=true:=by simpa using hne
          have hlb:((ps.length:Int) == 0)=false:=by simpa using hps0
          go_wp2_with (first
            | (at_builtin
               refine wpList_append_own_at _ rfl (.tmp 28) (.tmp 34) 105 rfl w.heap.size 143 i0 (.pointer none) 1 8 Tryz.underlying105 hi hz0 hz1 hz2 rfl (by decide) (.slice pa ps.length pc) ps.length (ptrs (B1 ++ [a]) ps) rfl (HL4.out.2.1.own.alloc _) ⟨w4.heap.size,0,none⟩ 1 1 [pv a] rfl rfl (cell_one_new _ _ _) (fun y hy=>by simp at hy;subst hy;rfl) (by unfold maxLen;omega) (by omega) (by have:=hbw4;simp;omega) ?_
               intro v1 w6 hn1 hg1 _ hat1
               have HPU:Hid _:=LocP.push (n:=T1.length) HL4.out.1 hB HL4.out.2.1 (by rw [HL4.out.2.2.2];exact hn1) hg1 hat1
               clear hn1 hg1 hat1)
            | (go_at_call 153
               refine hN4.mono ?_
               rintro e w4 ⟨a,rfl,ha4,hblk4,hb4⟩
               have hb14:=below_then (below_then (below_then hb2 (below_made w2 _)) hb3) hb4
               have hbw4:w.heap.size≤w4.heap.size:=Nat.le_trans (Nat.le_trans hszl HG1.out.1.size) hb14.size
               obtain ⟨I4,hP4,hX4,hL4,hbl4⟩:=leaf_ps HG1.out.2 hb14 (Nat.le_trans (below_then (below_then hb2 (below_made w2 _)) hb3).size ha4) hblk4 (own_low (own_same_at ho3 (fun k e=>hb4.block k (ho3.lt k e).2)) (below_then hb2 (below_made w2 _)).size) hok3 (by simp;omega) (hL.gr HG1.out.1 hB.b) hps
               have HL4:Hid _:=And.intro hP4 (And.intro hL4 (And.intro hX4 hbl4))
               have HBW:Hid _:=hb14
               clear hP4 hX4 hL4 hbl4 hblk4 ha4 hb4 hb14 ho3 hok3 hb3 hb2 hN4 hN3)
            | (go_at_call 161;refine hN3.mono ?_;rintro e w3 ⟨vs,rfl,⟨vr,rs',rfl,ho3,hok3⟩,hb3⟩;have hN4:=leaf_any w3 vr false (by obtain ⟨z1,z2,z3⟩:=Rf.own_len ho3;exact ⟨z1,_,z2,z3⟩))
            | (go_at_call 162;refine (one_any w1 (x:Int)).mono ?_;rintro e w2 ⟨rfl,hb2⟩;have hN3:=of_any (w2.alloc (.cells #[.int .i32 (x:Int),.int .i32 (x:Int)] 197)) [(x,x)] (.slice (some ⟨w2.heap.size,0,none⟩) 1 1) (own_made w2 0 197 2 1 #[.int .i32 (x:Int),.int .i32 (x:Int)] (Nat.zero_le _) rfl (by unfold maxLen;omega)) (by simp) (by simp) (by simp;omega))
            | (go_at_call 160;refine (hCh n).mono ?_;rintro e w1 ⟨hg1,rfl,hR1⟩;have HG1:Hid (Gr b wr w1∧PS w1 b s { c with i:=j } bm vR I1 T1 B1 E):=⟨(hDr n).trans hg1,hmain w1 ((hDr n).trans hg1) hR1⟩;clear hg1 hR1)
            | (go_at_call 98;refine hPk.mono ?_;rintro e wn ⟨rfl,n,rfl⟩))
          have hQ:QInv w b s c bm vR I B E d r v1 w6:=by
            refine ⟨ps ++ [T1.length],T1 ++ [G.mk T1 115 [(x,x)] false []],B1 ++ [a],I4,j,HPU.out.1,HPU.out.2.1,hX.trans (hG.trans HG1.out.1).size HL4.out.2.2.1,HPU.out.2.2 w (Nat.le_refl _) ((hG.trans HG1.out.1).trans (Gr.below HBW.out)),lt_snoc' _ _ _ hps,?_,HS.out⟩
            simp
            omega
          refine ⟨hQ,?_⟩
          rw [HP.out,HPU.out.1.rb.pos]
          show s.size - j < _
          omega
    · have hlen:¬ ps.length=0:=by simpa using hne
      rw [(pkV_eq (by omega)).2 h39] at hPk
      have hlt1:=G.lt_of_pk (s:=s) (i:=i1) (by omega)
      clear hCh
      go_wp2_with (first
        | (go_at_call 129;refine hJ.mono ?_;rintro e w3 ⟨I',B',rfl,hP3,hX3,hb3⟩)
        | (go_at_call 125;refine (step_any (wr.drewN n) b s _ _ vR 1 (hP.rb.drewN n) hs hlt1).mono ?_;rintro e w2 ⟨rfl,hR2,hE2⟩;have hG2:Gr b wr w2:=(Kept.drewN (Kept.refl _ wr) n).trans hE2.kept;have hP2:=hP.step hG2 hR2 (G.skip_le s _ hlt1);have hL2:=hL.gr hG2 hB.b;have hJ:=join_ps w w2 b s _ bm vR I1 T1 B1 E 113 1 (.inl ⟨rfl,rfl⟩) _ ps hP2 hB (Nat.le_trans hszl hG2.size) hL2 hne hps (by omega))
        | (go_at_call 98;refine hPk.mono ?_;rintro e w1 ⟨rfl,n,rfl⟩))
      go_ret
      exact ⟨(hG.trans hG2).trans (Gr.below hb3),I',B',rfl,hP3,hX.trans (Nat.le_refl _) hX3⟩
end Pr
end Go.Proofs.YtpgcidpghmoibaaGreatDoor

namespace Go.Proofs.YtpgcidpghmoibaaGreatDoor
namespace Pr
open Go.RowKit Go.Maps
open Rf (Kept)
open G (PNode)
inductive PRes where
  | ok (a z j:Nat)
  | err (e p:Nat)
def partR (s:ByteArray) (i:Nat):PRes:=match G.chr s 93 45 i with
  | none=>.err 2 i
  | some (a,j)=>if G.pk s j=45 then (match G.chr s 93 45 (j + 1) with
      | none=>.err 2 (j + 1)
      | some (z,k)=>if z < a then .err 4 i else .ok a z k) else .ok a a j
def PartPost (w:World) (b:Nat) (s:ByteArray) (c:C) (m vR:Value) (r:PRes) (e:Ending) (w':World):Prop:=
  Gr b w w'∧match r with
    | .ok a z j=>e=.returned (.tuple #[.agg #[.int .i32 (a:Int),.int .i32 (z:Int)],.bool true])∧RB w' b s { c with i:=j } m vR
    | .err er p=>∃ x y:Int,∃ i' d':Nat,e=.returned (.tuple #[.agg #[.int .i32 x,.int .i32 y],.bool false])∧RB w' b s ⟨i',d',p,er⟩ m vR
theorem res_two {W:World} {B:Nat} {t:TypeId} {x y:Value} (h:W.heap[B]?=some (.cells #[.int .i32 0,.int .i32 0] t (0,0))) :
    (W.setCell ⟨B,0,none⟩ x).cell? ⟨B,0,none⟩=some x∧((W.setCell ⟨B,0,none⟩ x).setCell ⟨B,1,none⟩ y).cell? ⟨B,1,none⟩=some y:=
  ⟨Rf.cell_blk (Rf.blk_set h _ _) 0 _ rfl,Rf.cell_blk (Rf.blk_set (Rf.blk_set h _ _) _ _) 1 _ rfl⟩
theorem fin_two {w W:World} {b:Nat} {s:ByteArray} {c:C} {m vR x y:Value} (hG:Gr b w W) (hR:RB W b s c m vR) (hb:b < w.heap.size) :
    Gr b w ((W.setCell ⟨w.heap.size,0,none⟩ x).setCell ⟨w.heap.size,1,none⟩ y)∧RB ((W.setCell ⟨w.heap.size,0,none⟩ x).setCell ⟨w.heap.size,1,none⟩ y) b s c m vR:=by
  refine ⟨Kept.setNew (Kept.setNew hG (q:=⟨w.heap.size,0,none⟩) (Nat.le_refl _) _) (q:=⟨w.heap.size,1,none⟩) (Nat.le_refl _) _,?_⟩
  show _=_
  rw [Rf.blk_ne _ (by omega),Rf.blk_ne _ (by omega)]
  exact hR
theorem blk_res {w W:World} {b:Nat} {o:Obj} (hg:Gr b (w.alloc o) W) (hb:b < w.heap.size):W.heap[w.heap.size]?=some o:=
  (hg.block w.heap.size (by simp) (by omega)).trans (heap_alloc_new w o)
theorem cells_res {W:World} {B:Nat} {t:TypeId} (h:W.heap[B]?=some (.cells #[.int .i32 0,.int .i32 0] t (0,0))):(∀ i,W.frozen? ⟨B,i,none⟩=false)∧W.cell? ⟨B,0,none⟩=some (.int .i32 0)∧W.cell? ⟨B,1,none⟩=some (.int .i32 0):=
  ⟨Rf.free_blk h,Rf.cell_blk h 0 _ rfl,Rf.cell_blk h 1 _ rfl⟩
set_option maxRecDepth 100000 in
set_option maxHeartbeats 2000000 in
theorem part_any (w:World) (b:Nat) (s:ByteArray) (c:C) (m vR:Value) (hR:RB w b s c m vR) (hs:s.size≤2000) (hi:c.i≤s.size) (hT:Tabs w) (hO:Own b) :
    Calls Tryz.prog 163 #[.pointer (some ⟨b,0,none⟩)] w fun e w'=>PartPost w b s c m vR (partR s c.i) e w':=by
  have hb0:=hR.lt
  have hR0:=hR.below (below_made w (.cells #[.int .i32 0,.int .i32 0] 197))
  have hT0:=hT.below (below_made w (.cells #[.int .i32 0,.int .i32 0] 197))
  have hbk:=heap_alloc_new w (.cells #[.int .i32 0,.int .i32 0] 197)
  have hG0:Gr b w (w.alloc (.cells #[.int .i32 0,.int .i32 0] 197)):=Gr.below (below_made w _)
  obtain ⟨c0,c1,c2,c3,c4,c5,c6,fr⟩:=hR0.reads
  have hC:=char_any _ b s c m vR ⟨#[93,45]⟩ 93 45 (.inr ⟨rfl,rfl,rfl⟩) hR0 hs hi hT0
  have HG0:Hid _:=And.intro hG0 hbk
  clear hG0 hbk hR0 hT0
  unfold partR
  cases hc:G.chr s 93 45 c.i with
  | none =>
    rw [hc] at hC
    simp only
    clear hc
    go_enter Tryz.func163,Tryz.ntmps163
    go_wp2_with (first
      | (go_at_call 162;refine (one_any w1 0).mono ?_;rintro e w2 ⟨rfl,hb2⟩;have HGW:Hid _:=Kept.trans hg1 (Gr.below hb2);obtain ⟨f0,g0,g1⟩:=cells_res (W:=w2) (blk_res HGW.out hb0))
      | (go_at_call 160;refine hC.mono ?_;rintro e w1 ⟨hg1,rfl,hR1⟩))
    obtain ⟨s0,s1⟩:=res_two (x:=.int .i32 0) (y:=.int .i32 0) (blk_res HGW.out hb0)
    refine bodyPost_ret (by simp [results,Tryz.results163,go_sem,s0,s1];try rfl) rfl ?_
    obtain ⟨q1,q2⟩:=fin_two (x:=.int .i32 0) (y:=.int .i32 0) (HG0.out.1.trans HGW.out) (hR1.below hb2) hb0
    exact ⟨q1,0,0,_,_,rfl,q2⟩
  | some q =>
    obtain ⟨a,j⟩:=q
    have hbd:=G.chr_bd hc
    rw [hc] at hC
    simp only
    clear hc
    have hab:a≤1114111:=hbd.2.2
    by_cases h45:G.pk s j=45
    · rw [if_pos h45]
      have hlt:=G.lt_of_pk (s:=s) (i:=j) (by omega)
      have hpv:pkV s j=45:=(pkV_eq (by omega)).2 h45
      have hPk:∀ w1,RB w1 b s { c with i:=j } m vR→_:=fun w1 hR1=>peek_any w1 b s _ m vR hR1 hs hbd.2.1
      have hC2:∀ w2,RB w2 b s { c with i:=j + 1 } m vR→Tabs w2→_:=fun w2 hR2 hT2=>char_any w2 b s _ m vR ⟨#[93,45]⟩ 93 45 (.inr ⟨rfl,rfl,rfl⟩) hR2 hs hlt hT2
      simp only [hpv] at hPk
      have HT0:Hid (Tabs (w.alloc (.cells #[.int .i32 0,.int .i32 0] 197))):=hT.below (below_made w _)
      clear h45 hpv
      cases hc2:G.chr s 93 45 (j + 1) with
      | none =>
        simp only [hc2] at hC2 ⊢
        clear hc2
        go_enter Tryz.func163,Tryz.ntmps163
        go_wp2_with (first
          | (go_at_call 160;refine hC3.mono ?_;rintro e w3 ⟨hg3,rfl,hR3⟩;have HGW:Hid _:=Kept.trans (Gr.set (hg1.trans (Kept.drewN (Kept.refl _ w1) n)) 1 (.int .i64 ((j:Int) + 1))) hg3;obtain ⟨f0,g0,g1⟩:=cells_res (W:=w3) (blk_res HGW.out hb0))
          | (go_at_call 98;refine (hPk w1 hR1).mono ?_;rintro e w2 ⟨rfl,n,rfl⟩;have hC3:=hC2 ((w1.drewN n).setCell ⟨b,1,none⟩ (.int .i64 ((j:Int) + 1))) (hR1.drewN n).inc (HT0.out.gr (Gr.set (hg1.trans (Kept.drewN (Kept.refl _ w1) n)) 1 (.int .i64 ((j:Int) + 1))) hO))
          | (go_at_call 160;refine hC.mono ?_;rintro e w1 ⟨hg1,rfl,hR1⟩;clear c0 c1 c2 c3 c4 c5 c6 fr;obtain ⟨c0,c1,c2,c3,c4,c5,c6,fr⟩:=hR1.reads))
        obtain ⟨s0,s1⟩:=res_two (x:=.int .i32 (a:Int)) (y:=.int .i32 0) (blk_res HGW.out hb0)
        refine bodyPost_ret (by simp [results,Tryz.results163,go_sem,s0,s1];try rfl) rfl ?_
        obtain ⟨q1,q2⟩:=fin_two (x:=.int .i32 (a:Int)) (y:=.int .i32 0) (HG0.out.1.trans HGW.out) hR3 hb0
        exact ⟨q1,(a:Int),0,_,_,rfl,q2⟩
      | some q2 =>
        obtain ⟨z,k⟩:=q2
        have hbd2:=G.chr_bd hc2
        simp only [hc2] at hC2 ⊢
        clear hc2
        have hzb:z≤1114111:=hbd2.2.2
        by_cases hza:z < a
        · rw [if_pos hza]
          have hza':(z:Int) < (a:Int):=by omega
          go_enter Tryz.func163,Tryz.ntmps163
          go_wp2_with (first
            | (go_at_call 127;refine (fail_any w3 b s _ m vR c.i 4 hR3).mono ?_;rintro e w4 ⟨rfl,hR4,hE4⟩;have HGW:Hid _:=Kept.trans (Kept.trans (Gr.set (hg1.trans (Kept.drewN (Kept.refl _ w1) n)) 1 (.int .i64 ((j:Int) + 1))) hg3) hE4.kept;obtain ⟨f0,g0,g1⟩:=cells_res (W:=w4) (blk_res HGW.out hb0))
            | (go_at_call 160;refine hC3.mono ?_;rintro e w3 ⟨hg3,rfl,hR3⟩)
            | (go_at_call 98;refine (hPk w1 hR1).mono ?_;rintro e w2 ⟨rfl,n,rfl⟩;have hC3:=hC2 ((w1.drewN n).setCell ⟨b,1,none⟩ (.int .i64 ((j:Int) + 1))) (hR1.drewN n).inc (HT0.out.gr (Gr.set (hg1.trans (Kept.drewN (Kept.refl _ w1) n)) 1 (.int .i64 ((j:Int) + 1))) hO))
            | (go_at_call 160;refine hC.mono ?_;rintro e w1 ⟨hg1,rfl,hR1⟩;clear c0 c1 c2 c3 c4 c5 c6 fr;obtain ⟨c0,c1,c2,c3,c4,c5,c6,fr⟩:=hR1.reads))
          obtain ⟨s0,s1⟩:=res_two (x:=.int .i32 (a:Int)) (y:=.int .i32 (z:Int)) (blk_res HGW.out hb0)
          refine bodyPost_ret (by simp [results,Tryz.results163,go_sem,s0,s1];try rfl) rfl ?_
          obtain ⟨q1,q2⟩:=fin_two (x:=.int .i32 (a:Int)) (y:=.int .i32 (z:Int)) (HG0.out.1.trans HGW.out) hR4 hb0
          exact ⟨q1,(a:Int),(z:Int),_,_,rfl,q2⟩
        · rw [if_neg hza]
          have hza':¬ (z:Int) < (a:Int):=by omega
          go_enter Tryz.func163,Tryz.ntmps163
          go_wp2_with (first
            | (go_at_call 160;refine hC3.mono ?_;rintro e w3 ⟨hg3,rfl,hR3⟩;have HGW:Hid _:=Kept.trans (Gr.set (hg1.trans (Kept.drewN (Kept.refl _ w1) n)) 1 (.int .i64 ((j:Int) + 1))) hg3;obtain ⟨f0,g0,g1⟩:=cells_res (W:=w3) (blk_res HGW.out hb0))
            | (go_at_call 98;refine (hPk w1 hR1).mono ?_;rintro e w2 ⟨rfl,n,rfl⟩;have hC3:=hC2 ((w1.drewN n).setCell ⟨b,1,none⟩ (.int .i64 ((j:Int) + 1))) (hR1.drewN n).inc (HT0.out.gr (Gr.set (hg1.trans (Kept.drewN (Kept.refl _ w1) n)) 1 (.int .i64 ((j:Int) + 1))) hO))
            | (go_at_call 160;refine hC.mono ?_;rintro e w1 ⟨hg1,rfl,hR1⟩;clear c0 c1 c2 c3 c4 c5 c6 fr;obtain ⟨c0,c1,c2,c3,c4,c5,c6,fr⟩:=hR1.reads))
          obtain ⟨s0,s1⟩:=res_two (x:=.int .i32 (a:Int)) (y:=.int .i32 (z:Int)) (blk_res HGW.out hb0)
          refine bodyPost_ret (by simp [results,Tryz.results163,go_sem,s0,s1];try rfl) rfl ?_
          obtain ⟨q1,q2⟩:=fin_two (x:=.int .i32 (a:Int)) (y:=.int .i32 (z:Int)) (HG0.out.1.trans HGW.out) hR3 hb0
          exact ⟨q1,rfl,q2⟩
    · rw [if_neg h45]
      have hne:¬ pkV s j=45:=pkV_ne (by omega) h45
      have hPk:∀ w1,RB w1 b s { c with i:=j } m vR→_:=fun w1 hR1=>peek_any w1 b s _ m vR hR1 hs hbd.2.1
      simp only at hPk
      generalize pkV s j=p at hPk hne
      have hnb:(p != 45)=true:=by simpa using hne
      go_enter Tryz.func163,Tryz.ntmps163
      go_wp2_with (first
        | (go_at_call 162;refine (one_any (w1.drewN n) (a:Int)).mono ?_;rintro e w2 ⟨rfl,hb2⟩;have HGW:Hid _:=Kept.trans (hg1.trans (Kept.drewN (Kept.refl _ w1) n)) (Gr.below hb2);obtain ⟨f0,g0,g1⟩:=cells_res (W:=w2) (blk_res HGW.out hb0))
        | (go_at_call 98;refine (hPk w1 hR1).mono ?_;rintro e w2 ⟨rfl,n,rfl⟩)
        | (go_at_call 160;refine hC.mono ?_;rintro e w1 ⟨hg1,rfl,hR1⟩))
      obtain ⟨s0,s1⟩:=res_two (x:=.int .i32 (a:Int)) (y:=.int .i32 (a:Int)) (blk_res HGW.out hb0)
      refine bodyPost_ret (by simp [results,Tryz.results163,go_sem,s0,s1];try rfl) rfl ?_
      obtain ⟨q1,q2⟩:=fin_two (x:=.int .i32 (a:Int)) (y:=.int .i32 (a:Int)) (HG0.out.1.trans HGW.out) ((hR1.drewN n).below hb2) hb0
      exact ⟨q1,rfl,q2⟩
end Pr
end Go.Proofs.YtpgcidpghmoibaaGreatDoor
