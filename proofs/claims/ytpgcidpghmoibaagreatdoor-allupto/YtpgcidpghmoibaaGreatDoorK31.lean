/-
  THE PROGRAM's SETS
  THE PROGRAM's SETS
  THE PROGRAM's TREES, as memory, held against the table of nodes that t
  THE PROGRAM's BITS
-/
import Derived.Test.YtpgcidpghmoibaaGreatDoorK03
import Derived.Test.YtpgcidpghmoibaaGreatDoorK30
namespace Go.Proofs.YtpgcidpghmoibaaGreatDoor
namespace Pr
open Go.RowKit
open Rf (Kept)
def SetV (w:World) (B:Nat) (rs:List (Nat × Nat)) (o:Bool) (v:Value):Prop:=
  ∃ vr rs',v=.agg #[vr,.bool o]∧w.ownsRow B 197 2 vr rs'.length (rc rs')∧SetOk rs' rs
theorem own_low {w:World} {b b' e size n:Nat} {v:Value} {xs:List Value} (h:w.ownsRow b e size v n xs) (hb:b'≤b):w.ownsRow b' e size v n xs:=by
  obtain ⟨h1,h2⟩:=h
  refine ⟨h1,?_⟩
  rcases h2 with h2 | ⟨g,cap,cur,rfl,h3,h4,h5⟩
  · exact .inl h2
  · exact .inr ⟨g,cap,cur,rfl,by omega,h4,h5⟩
set_option maxRecDepth 100000 in
set_option maxHeartbeats 1000000 in
theorem of_any (w:World) (rs:List (Nat × Nat)) (v:Value) (h:w.ownsRow 0 197 2 v rs.length (rc rs)) (hn:rs.length≤100000) (hle:∀ r ∈ rs,r.1≤r.2) (hbd:∀ r ∈ rs,r.2≤1114111) :
    Calls Tryz.prog 161 #[v] w fun e w'=>∃ vs,e=.returned vs∧SetV w' w.heap.size rs false vs∧Below w.heap.size w w':=by
  have ho:=h.alloc (.cells #[.slice none 0 0,.bool false] 147)
  have hN:=ordered_any _ rs v ho hn hle hbd
  go_enter Tryz.func161,Tryz.ntmps161
  go_wp2_with (go_at_call 159;refine hN.mono ?_;rintro e w1 ⟨v1,rs1,rfl,ho1,hb1,hok⟩;have hbk:w1.heap[w.heap.size]?=some (.cells #[.slice none 0 0,.bool false] 147 (0,0)):=(hb1.block w.heap.size (by simp)).trans (heap_alloc_new w _);obtain ⟨va,vc,hve⟩:=Rf.own_len ho1;subst hve;have f0:=Rf.free_blk hbk;have g0:w1.cell? ⟨w.heap.size,0,none⟩=some (.slice none 0 0):=Rf.cell_blk hbk 0 _ rfl;have g1:w1.cell? ⟨w.heap.size,1,none⟩=some (.bool false):=Rf.cell_blk hbk 1 _ rfl)
  have s0:(w1.setCell ⟨w.heap.size,0,none⟩ (.slice va rs1.length vc)).cell? ⟨w.heap.size,0,none⟩=some (.slice va rs1.length vc):=Rf.cell_blk (Rf.blk_set hbk _ _) 0 _ rfl
  have s1:((w1.setCell ⟨w.heap.size,0,none⟩ (.slice va rs1.length vc)).setCell ⟨w.heap.size,1,none⟩ (.bool false)).cell? ⟨w.heap.size,1,none⟩=some (.bool false):=Rf.cell_blk (Rf.blk_set (Rf.blk_set hbk _ _) _ _) 1 _ rfl
  refine bodyPost_ret (by simp [results,Tryz.results161,go_sem,s0,s1];try rfl) rfl ?_
  have hlt:w.heap.size < w1.heap.size:=by have:=hb1.size;simp at this;omega
  have hbw:Below w.heap.size w w1:=((Below.refl _ w).alloc (Nat.le_refl _) _).trans (hb1.mono (by simp))
  refine ⟨_,rfl,⟨_,rs1,rfl,?_,hok⟩,(hbw.setCell (Nat.le_refl _) _).setCell (Nat.le_refl _) _⟩
  have hne:∀ k,(Value.slice va rs1.length vc).ownBlock=some k→k ≠ w.heap.size:=fun k e e2=>by have:=(ho1.lt k e).1;simp at this;omega
  refine own_same_at (own_low ho1 (by simp)) (fun k e=>?_)
  rw [Rf.blk_ne _ (hne k e),Rf.blk_ne _ (hne k e)]
set_option maxRecDepth 100000 in
set_option maxHeartbeats 1000000 in
theorem except_any (w:World) (rs:List (Nat × Nat)) (v:Value) (h:w.ownsRow 0 197 2 v rs.length (rc rs)) (hn:rs.length≤100000) (hle:∀ r ∈ rs,r.1≤r.2) (hbd:∀ r ∈ rs,r.2≤1114111) :
    Calls Tryz.prog 154 #[v] w fun e w'=>∃ vs,e=.returned vs∧SetV w' w.heap.size rs true vs∧Below w.heap.size w w':=by
  have ho:=h.alloc (.cells #[.slice none 0 0,.bool false] 147)
  have hN:=ordered_any _ rs v ho hn hle hbd
  go_enter Tryz.func154,Tryz.ntmps154
  go_wp2_with (go_at_call 159;refine hN.mono ?_;rintro e w1 ⟨v1,rs1,rfl,ho1,hb1,hok⟩;have hbk:w1.heap[w.heap.size]?=some (.cells #[.slice none 0 0,.bool false] 147 (0,0)):=(hb1.block w.heap.size (by simp)).trans (heap_alloc_new w _);obtain ⟨va,vc,hve⟩:=Rf.own_len ho1;subst hve;have f0:=Rf.free_blk hbk;have g0:w1.cell? ⟨w.heap.size,0,none⟩=some (.slice none 0 0):=Rf.cell_blk hbk 0 _ rfl;have g1:w1.cell? ⟨w.heap.size,1,none⟩=some (.bool false):=Rf.cell_blk hbk 1 _ rfl)
  have s0:(w1.setCell ⟨w.heap.size,0,none⟩ (.slice va rs1.length vc)).cell? ⟨w.heap.size,0,none⟩=some (.slice va rs1.length vc):=Rf.cell_blk (Rf.blk_set hbk _ _) 0 _ rfl
  have s1:((w1.setCell ⟨w.heap.size,0,none⟩ (.slice va rs1.length vc)).setCell ⟨w.heap.size,1,none⟩ (.bool true)).cell? ⟨w.heap.size,1,none⟩=some (.bool true):=Rf.cell_blk (Rf.blk_set (Rf.blk_set hbk _ _) _ _) 1 _ rfl
  refine bodyPost_ret (by simp [results,Tryz.results154,go_sem,s0,s1];try rfl) rfl ?_
  have hlt:w.heap.size < w1.heap.size:=by have:=hb1.size;simp at this;omega
  have hbw:Below w.heap.size w w1:=((Below.refl _ w).alloc (Nat.le_refl _) _).trans (hb1.mono (by simp))
  refine ⟨_,rfl,⟨_,rs1,rfl,?_,hok⟩,(hbw.setCell (Nat.le_refl _) _).setCell (Nat.le_refl _) _⟩
  have hne:∀ k,(Value.slice va rs1.length vc).ownBlock=some k→k ≠ w.heap.size:=fun k e e2=>by have:=(ho1.lt k e).1;simp at this;omega
  refine own_same_at (own_low ho1 (by simp)) (fun k e=>?_)
  rw [Rf.blk_ne _ (hne k e),Rf.blk_ne _ (hne k e)]
set_option maxRecDepth 100000 in
set_option maxHeartbeats 1000000 in
theorem one_any (w:World) (x:Int):Calls Tryz.prog 162 #[.int .i32 x] w fun e w'=>e=.returned (.agg #[.int .i32 x,.int .i32 x])∧Below w.heap.size w w':=by
  go_enter Tryz.func162,Tryz.ntmps162
  go_wp2
  go_returns
  exact ⟨rfl,(Below.refl _ w).alloc (Nat.le_refl _) _⟩
set_option maxRecDepth 100000 in
set_option maxHeartbeats 1000000 in
theorem comp_any (w:World) (a c:Int) (r:Int):Calls Tryz.prog 116 #[.agg #[.int .i32 a,.int .i32 c],.int .i32 r] w fun e w'=>e=.returned (.int .i64 (if c < r then -1 else if r < a then 1 else 0))∧Below w.heap.size w w':=by
  by_cases h1:c < r
  · rw [if_pos h1]
    go_enter Tryz.func116,Tryz.ntmps116
    go_wp2
    go_ret
    exact ⟨rfl,(Below.refl _ w).alloc (Nat.le_refl _) _⟩
  · rw [if_neg h1]
    by_cases h2:r < a
    · rw [if_pos h2]
      go_enter Tryz.func116,Tryz.ntmps116
      go_wp2
      go_ret
      exact ⟨rfl,(Below.refl _ w).alloc (Nat.le_refl _) _⟩
    · rw [if_neg h2]
      go_enter Tryz.func116,Tryz.ntmps116
      go_wp2
      go_ret
      exact ⟨rfl,(Below.refl _ w).alloc (Nat.le_refl _) _⟩
end Pr
end Go.Proofs.YtpgcidpghmoibaaGreatDoor

namespace Go.Proofs.YtpgcidpghmoibaaGreatDoor
namespace Pr
open Go.RowKit
open Rf (Kept)
set_option maxRecDepth 100000 in
set_option maxHeartbeats 2000000 in
theorem search_any (w:World) (rs:List (Nat × Nat)) (v:Value) (h:w.ownsRow 0 197 2 v rs.length (rc rs)) (hn:rs.length≤2000000) (hS:G.Sep rs) (r:Int) :
    Calls Tryz.prog 115 #[v,.int .i32 r,.func (.func 116) #[] #[]] w fun e w'=>∃ i:Int,e=.returned (.tuple #[.int .i64 i,.bool (rs.any (G.within r))])∧Below w.heap.size w w':=by
  obtain ⟨va,vc,hve⟩:=Rf.own_len h
  subst hve
  go_enter Tryz.func115,Tryz.ntmps115
  go_wp2
  go_loopw [9,10] (fun vi vj wr=>∃ i j:Nat,vi=.int .i64 i∧vj=.int .i64 j∧i≤j∧j≤rs.length∧(∀ k a,k < i→rs[k]?=some a→(a.2:Int) < r)∧(∀ k a,j≤k→rs[k]?=some a→r≤(a.2:Int))∧Below w.heap.size w wr)
    (fun vi vj _=>(intOf vj).toNat - (intOf vi).toNat)
  case atStart =>
    refine ⟨0,rs.length,rfl,rfl,Nat.zero_le _,Nat.le_refl _,fun k a hk=>by omega,?_,Below.refl _ _⟩
    intro k a hk hx
    rw [List.getElem?_eq_none hk] at hx
    cases hx
  case round =>
    obtain ⟨i,j,rfl,rfl,hij,hjn,hlo,hhi,hbw⟩:=hrel
    have ho:=own_same_at h (fun k e=>hbw.block k (h.lt k e).2)
    have HL:Hid _:=And.intro hlo (And.intro hhi hbw)
    clear hlo hhi
    by_cases hlt:i < j
    · have hd0:i≤(i + j) / 2∧(i + j) / 2 < j:=by omega
      have hx:rs[(i + j) / 2]?=some (rs[(i + j) / 2]'(by omega)):=List.getElem?_eq_getElem _
      generalize rs[(i + j) / 2]'(by omega)=x at hx
      obtain ⟨g,cap,hv,_,_⟩:=ho.form (by omega)
      simp only [Value.slice.injEq] at hv
      obtain ⟨rfl,_,rfl⟩:=hv
      have cs0:wr.cell? ⟨g,(i + j) / 2 * 2,none⟩=some (.int .i32 (x.1:Int)):=own_cell' ho ((i + j) / 2 * 2 + 0) ((rc_get rs _ 0 x hx (by omega)).trans rfl)
      have cs1:wr.cell? ⟨g,(i + j) / 2 * 2 + 1,none⟩=some (.int .i32 (x.2:Int)):=own_cell' ho ((i + j) / 2 * 2 + 1) ((rc_get rs _ 1 x hx (by omega)).trans rfl)
      have hC:=comp_any wr (x.1:Int) (x.2:Int) r
      by_cases hc:(x.2:Int) < r
      · rw [if_pos hc] at hC
        have HG:Hid (∀ k a,k < (i + j) / 2 + 1→rs[k]?=some a→(a.2:Int) < r):=by
          intro k a hk ha
          have:=G.sep_mono hS (show k≤(i + j) / 2 by omega) ha hx
          omega
        clear hx
        go_wp2_with (go_at_call 116;refine hC.mono ?_;rintro e w2 ⟨rfl,hb2⟩)
        refine ⟨⟨(i + j) / 2 + 1,j,by first | go_num | (congr 1;omega),rfl,by omega,hjn,HG.out,HL.out.2.1,HL.out.2.2.trans (hb2.mono (by have:=hbw.size;omega))⟩,by simp [intOf];omega⟩
      · have hC2:Calls Tryz.prog 116 #[.agg #[.int .i32 (x.1:Int),.int .i32 (x.2:Int)],.int .i32 r] wr fun e w'=>∃ y:Int,e=.returned (.int .i64 y)∧¬ y < 0∧Below wr.heap.size wr w':=by
          refine hC.mono ?_
          rintro e w' ⟨rfl,hb⟩
          refine ⟨_,rfl,?_,hb⟩
          rw [if_neg hc]
          split <;> omega
        clear hC
        have HG:Hid (∀ k a,(i + j) / 2≤k→rs[k]?=some a→r≤(a.2:Int)):=by
          intro k a hk ha
          have:=G.sep_mono hS hk hx ha
          omega
        clear hx
        go_wp2_with (go_at_call 116;refine hC2.mono ?_;rintro e w2 ⟨y,rfl,hy,hb2⟩)
        refine ⟨⟨i,(i + j) / 2,rfl,by first | go_num | (congr 1;omega),by omega,by omega,HL.out.1,HG.out,HL.out.2.2.trans (hb2.mono (by have:=hbw.size;omega))⟩,by simp [intOf];omega⟩
    · have e:i=j:=by omega
      subst e
      have hany:=G.sep_any hS r i HL.out.1 (fun a ha=>HL.out.2.1 i a (Nat.le_refl _) ha)
      by_cases hin:i < rs.length
      · have hx:rs[i]?=some (rs[i]'hin):=List.getElem?_eq_getElem _
        generalize rs[i]'hin=x at hx
        have hxl:=HL.out.2.1 i x (Nat.le_refl _) hx
        rw [hx] at hany
        simp only at hany
        obtain ⟨g,cap,hv,_,_⟩:=ho.form (by omega)
        simp only [Value.slice.injEq] at hv
        obtain ⟨rfl,_,rfl⟩:=hv
        have cs0:wr.cell? ⟨g,i * 2,none⟩=some (.int .i32 (x.1:Int)):=own_cell' ho (i * 2 + 0) ((rc_get rs _ 0 x hx (by omega)).trans rfl)
        have cs1:wr.cell? ⟨g,i * 2 + 1,none⟩=some (.int .i32 (x.2:Int)):=own_cell' ho (i * 2 + 1) ((rc_get rs _ 1 x hx (by omega)).trans rfl)
        have hC:=comp_any wr (x.1:Int) (x.2:Int) r
        rw [if_neg (by omega)] at hC
        by_cases hc:r < (x.1:Int)
        · rw [if_pos hc] at hC
          rw [decide_eq_false (by omega)] at hany
          have HA:Hid _:=hany
          clear hany hx hxl
          go_wp2_with (go_at_call 116;refine hC.mono ?_;rintro e w2 ⟨rfl,hb2⟩)
          go_ret2
          exact ⟨_,by rw [HA.out];rfl,HL.out.2.2.trans (hb2.mono (by have:=hbw.size;omega))⟩
        · rw [if_neg hc] at hC
          rw [decide_eq_true (by omega)] at hany
          have HA:Hid _:=hany
          clear hany hx hxl
          go_wp2_with (go_at_call 116;refine hC.mono ?_;rintro e w2 ⟨rfl,hb2⟩)
          go_ret2
          exact ⟨_,by rw [HA.out];rfl,HL.out.2.2.trans (hb2.mono (by have:=hbw.size;omega))⟩
      · rw [List.getElem?_eq_none (by omega)] at hany
        simp only at hany
        have HA:Hid _:=hany
        clear hany
        have hin':¬ (i:Int) < (rs.length:Int):=by omega
        go_wp2
        go_ret2
        exact ⟨⟨_,by rw [HA.out];rfl⟩,HL.out.2.2⟩
theorem sep_len {M:Nat}:∀ {l:List (Nat × Nat)},l.Pairwise (fun a b=>a.2 < b.1)→(∀ a ∈ l,a.1≤a.2)→(∀ a ∈ l,a.2≤M)→∀ m,(∀ a ∈ l,m≤a.1)→l.length≤M + 1 - m
  | [],_,_,_,m,_=>Nat.zero_le _
  | a :: l,h1,h2,h3,m,h4=>by
    have hp:=List.pairwise_cons.1 h1
    have ih:=sep_len hp.2 (fun b hb=>h2 b (by simp [hb])) (fun b hb=>h3 b (by simp [hb])) (a.2 + 1) (fun b hb=>hp.1 b hb)
    have e1:=h2 a (by simp)
    have e2:=h3 a (by simp)
    have e3:=h4 a (by simp)
    simp only [List.length_cons]
    omega
theorem valid_rune (r:Int):Lib.validRune r=G.runeB r:=by
  unfold Lib.validRune G.runeB
  rw [Bool.eq_iff_iff]
  simp
  omega
def hasB (rs:List (Nat × Nat)) (o:Bool) (r:Int):Bool:=(rs.any (G.within r) && G.runeB r) != o
theorem hasB_in (x:G.PNode) (r:Int):hasB x.ranges x.other r=G.inV x r:=by
  unfold hasB G.inV
  cases x.ranges.any (G.within r) <;> cases G.runeB r <;> cases x.other <;> rfl
set_option maxRecDepth 100000 in
set_option maxHeartbeats 2000000 in
theorem has_any (w:World) (rs:List (Nat × Nat)) (o:Bool) (v:Value) (hv:SetV w 0 rs o v) (r:Int) :
    Calls Tryz.prog 84 #[v,.int .i32 r] w fun e w'=>e=.returned (.bool (hasB rs o r))∧Below w.heap.size w w':=by
  obtain ⟨vr,rs',rfl,ho,hok⟩:=hv
  obtain ⟨va,vc,hve⟩:=Rf.own_len ho
  subst hve
  have hS:=search_any (w.alloc (.cells #[.slice va rs'.length vc,.bool o] 147)) rs' _ (ho.alloc _) (by have:=sep_len hok.sep.1 hok.sep.2 hok.bd 0 (fun _ _=>Nat.zero_le _);omega) hok.sep r
  rw [hok.eqv r] at hS
  have hbk:=heap_alloc_new w (.cells #[.slice va rs'.length vc,.bool o] 147)
  have hval:=fun w=>Tryz.utf8_ValidRune r w
  rw [valid_rune] at hval
  unfold hasB
  generalize rs.any (G.within r)=bw at hS ⊢
  generalize G.runeB r=br at hval ⊢
  clear hok ho
  cases bw
  all_goals
    go_enter Tryz.func84,Tryz.ntmps84
    go_wp2_with (go_at_call 115;refine hS.mono ?_;rintro e w1 ⟨i,rfl,hb1⟩;have hb2:w1.heap[w.heap.size]?=some (.cells #[.slice va rs'.length vc,.bool o] 147 (0,0)):=(hb1.block w.heap.size (by simp)).trans hbk;have g1:w1.cell? ⟨w.heap.size,1,none⟩=some (.bool o):=Rf.cell_blk hb2 1 _ rfl)
    go_quiet ((go_at_call 117;refine Calls.quiet_of_same (hval _)))
    go_wp2
    go_ret
    refine ⟨?_,below_drewN (((Below.refl _ w).alloc (Nat.le_refl _) _).trans (hb1.mono (by simp))) _⟩
    cases o <;> cases br <;> rfl
end Pr
end Go.Proofs.YtpgcidpghmoibaaGreatDoor

namespace Go.Proofs.YtpgcidpghmoibaaGreatDoor
namespace Pr
open Go.RowKit
open Rf (Kept)
open G (PNode)
def bl (B:List Nat) (p:Nat):Nat:=B.getD p 0
abbrev pv (a:Nat):Value:=.pointer (some ⟨a,0,none⟩)
def ptrs (B:List Nat) (ps:List Nat):List Value:=ps.map fun p=>pv (bl B p)
theorem bl_app {B X:List Nat} {p:Nat} (h:p < B.length):bl (B ++ X) p=bl B p:=by simp [bl,List.getElem?_append_left h]
theorem bl_new (B:List Nat) (a:Nat):bl (B ++ [a]) B.length=a:=by simp [bl]
theorem ptrs_app {B X:List Nat} {ps:List Nat} (h:∀ p ∈ ps,p < B.length):ptrs (B ++ X) ps=ptrs B ps:=by
  apply List.map_congr_left
  intro p hp
  rw [bl_app (h p hp)]
theorem ptrs_snoc (B:List Nat) (ps:List Nat) (p:Nat):ptrs B (ps ++ [p])=ptrs B ps ++ [pv (bl B p)]:=by simp [ptrs]
def kindN (k:Nat):Nat:=if k=113 then 1 else if k=99 then 2 else if k=42 then 3 else if k=43 then 4 else 5
def leafCells (v:Value) (o:Bool):Array Value:=#[.int .i64 0,v,.bool o,.slice none 0 0,.int .i64 1]
def innerCells (k:Nat) (v:Value) (n:Nat):Array Value:=#[.int .i64 (k:Int),.slice none 0 0,.bool false,v,.int .i64 (n:Int)]
def NodeAt (w:World) (I:Nat→Prop) (B:List Nat) (a:Nat) (x:PNode):Prop:=
  if G.lone x=true then a=bl B (x.parts.headD 0)
  else if x.kind=115 then I a∧∃ v rs,w.heap[a]?=some (.cells (leafCells v x.other) 149 (0,0))∧w.ownsRow 0 197 2 v rs.length (rc rs)∧SetOk rs x.ranges∧∀ k,v.ownBlock=some k→I k
  else I a∧∃ v,w.heap[a]?=some (.cells (innerCells (kindN x.kind) v x.size) 149 (0,0))∧w.ownsRow 0 143 1 v x.parts.length (ptrs B x.parts)∧∀ k,v.ownBlock=some k→I k
structure Tree (w:World) (I:Nat→Prop) (T:List PNode) (B:List Nat):Prop where
  len:B.length=T.length
  node:∀ n x,T[n]?=some x→NodeAt w I B (bl B n) x
  lt:∀ k,I k→k < w.heap.size
theorem NodeAt.same {w w':World} {I I':Nat→Prop} {B:List Nat} {a:Nat} {x:PNode} (h:NodeAt w I B a x) (hI:∀ k,I k→I' k) (hk:∀ k,I k→w'.heap[k]?=w.heap[k]?):NodeAt w' I' B a x:=by
  unfold NodeAt at h ⊢
  by_cases h1:G.lone x=true
  · rw [if_pos h1] at h ⊢
    exact h
  · rw [if_neg h1] at h ⊢
    by_cases h2:x.kind=115
    · rw [if_pos h2] at h ⊢
      obtain ⟨ha,v,rs,hb,ho,hok,hv⟩:=h
      exact ⟨hI a ha,v,rs,(hk a ha).trans hb,Rf.own_same ho (fun k e=>hk k (hv k e)),hok,fun k e=>hI k (hv k e)⟩
    · rw [if_neg h2] at h ⊢
      obtain ⟨ha,v,hb,ho,hv⟩:=h
      exact ⟨hI a ha,v,(hk a ha).trans hb,Rf.own_same ho (fun k e=>hk k (hv k e)),fun k e=>hI k (hv k e)⟩
theorem NodeAt.app {w:World} {I:Nat→Prop} {B X:List Nat} {a:Nat} {x:PNode} (h:NodeAt w I B a x) (hp:∀ p ∈ x.parts,p < B.length):NodeAt w I (B ++ X) a x:=by
  unfold NodeAt at h ⊢
  by_cases h1:G.lone x=true
  · rw [if_pos h1] at h ⊢
    obtain ⟨p,hpp⟩:=G.lone_head h1
    rw [hpp] at h ⊢
    rw [h]
    exact (bl_app (hp p (by rw [hpp];simp))).symm
  · rw [if_neg h1] at h ⊢
    by_cases h2:x.kind=115
    · rw [if_pos h2] at h ⊢
      exact h
    · rw [if_neg h2] at h ⊢
      rw [ptrs_app hp]
      exact h
theorem Tree.same {w w':World} {I:Nat→Prop} {T:List PNode} {B:List Nat} (h:Tree w I T B) (hs:w.heap.size≤w'.heap.size) (hk:∀ k,I k→w'.heap[k]?=w.heap[k]?):Tree w' I T B:=
  ⟨h.len,fun n x hx=>(h.node n x hx).same (fun _ h=>h) hk,fun k hI=>Nat.lt_of_lt_of_le (h.lt k hI) hs⟩
theorem Tree.gr {w w':World} {I:Nat→Prop} {T:List PNode} {B:List Nat} {b:Nat} (h:Tree w I T B) (hg:Kept (fun k=>k ≠ b) w w') (hb:¬ I b):Tree w' I T B:=
  h.same hg.size (fun k hI=>hg.block k (h.lt k hI) (fun e=>hb (e ▸ hI)))
theorem Tree.below {w w':World} {I:Nat→Prop} {T:List PNode} {B:List Nat} (h:Tree w I T B) (hb:Below w.heap.size w w'):Tree w' I T B:=
  h.same hb.size (fun k hI=>hb.block k (h.lt k hI))
theorem get_snoc {α:Type} {l:List α} {y:α} {n:Nat} {x:α} (h:(l ++ [y])[n]?=some x):l[n]?=some x ∨ (n=l.length∧x=y):=by
  rcases Nat.lt_or_ge n l.length with hl | hl
  · rw [List.getElem?_append_left hl] at h
    exact .inl h
  · right
    rw [List.getElem?_append_right hl] at h
    have h0:n - l.length=0:=by
      obtain ⟨h1,_⟩:=List.getElem?_eq_some_iff.1 h
      simp at h1
      omega
    rw [h0] at h
    simp only [List.getElem?_cons_zero,Option.some.injEq] at h
    exact ⟨by omega,h.symm⟩
theorem Tree.snoc {w:World} {I I':Nat→Prop} {T:List PNode} {B:List Nat} {y:PNode} {a:Nat} (h:Tree w I T B) (hT:G.WF T) (hI:∀ k,I k→I' k) (hlt:∀ k,I' k→k < w.heap.size) (hp:∀ p ∈ y.parts,p < T.length) (hy:NodeAt w I' B a y):Tree w I' (T ++ [y]) (B ++ [a]) where
  len:=by simp [h.len]
  node n x hx:=by
    rcases get_snoc hx with hx | ⟨rfl,rfl⟩
    · have hn:n < T.length:=(List.getElem?_eq_some_iff.1 hx).1
      rw [bl_app (by rw [h.len];exact hn)]
      exact ((h.node n x hx).same hI (fun _ _=>rfl)).app (fun p hp=>by have:=(hT n x hx).parts p hp;rw [h.len];omega)
    · rw [← h.len,bl_new]
      exact hy.app (fun p hp2=>by rw [h.len];exact hp p hp2)
  lt:=hlt
theorem Tree.places {w:World} {I:Nat→Prop} {T:List PNode} {B:List Nat} (h:Tree w I T B) (hT:G.WF T):∀ n,n < T.length→w.cell? ⟨bl B n,4,none⟩=some (.int .i64 (G.sz T n:Int)):=by
  intro n
  induction n using Nat.strongRecOn with
  | ind n ih =>
    intro hn
    have hx:=List.getElem?_eq_getElem hn
    generalize T[n]=x at hx
    have hN:=h.node n x hx
    have hG:=hT n x hx
    rw [G.sz_eq hx]
    unfold NodeAt at hN
    by_cases h1:G.lone x=true
    · rw [if_pos h1] at hN
      obtain ⟨p,hp⟩:=G.lone_head h1
      have hpn:=hG.parts p (by rw [hp];simp)
      rw [hp] at hN
      rw [hN]
      show w.cell? ⟨bl B p,4,none⟩=_
      rw [ih p hpn (by omega)]
      have hk:x.kind ≠ 115:=by
        simp only [G.lone,Bool.and_eq_true,Bool.or_eq_true,decide_eq_true_eq] at h1
        omega
      have hsz:=hG.size
      rw [if_neg hk,hp] at hsz
      have hle:G.sz T p≤101:=by
        have hpx:=List.getElem?_eq_getElem (show p < T.length by omega)
        rw [G.sz_eq hpx]
        exact hT.le _ (List.mem_of_getElem? hpx)
      have e:G.sizeOf T [p]=G.sz T p:=by simp [G.sizeOf]
      rw [e] at hsz
      congr 2
      omega
    · rw [if_neg h1] at hN
      by_cases h2:x.kind=115
      · rw [if_pos h2] at hN
        obtain ⟨_,v,rs,hb,_⟩:=hN
        have hsz:=hG.size
        have hps:x.parts=[]:=by
          rcases hG.kind with ⟨_,k⟩ | ⟨k,_⟩ | ⟨k,_⟩
          · exact k
          · omega
          · omega
        rw [if_pos h2,hps] at hsz
        have e:x.size=1:=by simpa [G.sizeOf] using hsz
        rw [e]
        exact Rf.cell_blk hb 4 _ rfl
      · rw [if_neg h2] at hN
        obtain ⟨_,v,hb,_⟩:=hN
        exact Rf.cell_blk hb 4 _ rfl
structure Ext (w:World) (I:Nat→Prop) (B:List Nat) (I':Nat→Prop) (B':List Nat):Prop where
  sub:∀ k,I k→I' k
  new:∀ k,I' k→I k ∨ w.heap.size≤k
  app:∃ X,B'=B ++ X
theorem Ext.refl (w:World) (I:Nat→Prop) (B:List Nat):Ext w I B I B:=⟨fun _ h=>h,fun _ h=>.inl h,[],by simp⟩
theorem Ext.trans {w w':World} {I I' I'':Nat→Prop} {B B' B'':List Nat} (h:Ext w I B I' B') (hs:w.heap.size≤w'.heap.size) (g:Ext w' I' B' I'' B''):Ext w I B I'' B'' where
  sub k hk:=g.sub k (h.sub k hk)
  new k hk:=by
    rcases g.new k hk with h2 | h2
    · exact h.new k h2
    · exact .inr (Nat.le_trans hs h2)
  app:=by
    obtain ⟨X,hX⟩:=h.app
    obtain ⟨Y,hY⟩:=g.app
    exact ⟨X ++ Y,by rw [hY,hX,List.append_assoc]⟩
theorem Ext.low {w w':World} {I I':Nat→Prop} {B B':List Nat} (h:Ext w' I B I' B') (hs:w.heap.size≤w'.heap.size):Ext w I B I' B':=(Ext.refl w I B).trans hs h
theorem Ext.ptrs {w:World} {I I':Nat→Prop} {B B':List Nat} (h:Ext w I B I' B') {ps:List Nat} (hp:∀ p ∈ ps,p < B.length):ptrs B' ps=ptrs B ps:=by
  obtain ⟨X,rfl⟩:=h.app
  exact ptrs_app hp
end Pr
end Go.Proofs.YtpgcidpghmoibaaGreatDoor

namespace Go.Proofs.YtpgcidpghmoibaaGreatDoor
namespace Pr
open Go.RowKit
open Rf (Kept)
structure PB where
  a:Int
  c:Int
abbrev PB.val (x:PB):Value:=.agg #[.int .u64 x.a,.int .u64 x.c]
def hasI (u:Int) (j:Nat):Bool:=bits BinOp.and IntKind.u64 (u / 2 ^ j) 1 == 1
def orI (u v:Int):Int:=bits BinOp.or IntKind.u64 u v
def withI (u:Int) (j:Nat):Int:=bits BinOp.or IntKind.u64 u (IntKind.u64.wrap (2 ^ j))
def PB.has (x:PB) (i:Nat):Bool:=if i < 64 then hasI x.a (i % 64) else hasI x.c (i % 64)
def PB.with (x:PB) (i:Nat):PB:=if i < 64 then ⟨withI x.a (i % 64),x.c⟩ else ⟨x.a,withI x.c (i % 64)⟩
def PB.or (x y:PB):PB:=⟨orI x.a y.a,orI x.c y.c⟩
set_option maxRecDepth 100000 in
set_option maxHeartbeats 1000000 in
theorem bhas_any (w:World) (x:PB) (i:Nat) (hi:i < 128) :
    Calls Tryz.prog 106 #[x.val,.int .i64 (i:Int)] w fun e w'=>e=.returned (.bool (x.has i))∧Below w.heap.size w w':=by
  unfold PB.has
  rcases Nat.lt_or_ge i 64 with h | h
  · have h0:(i:Int) / 64=0:=by omega
    have h1:i / 64=0:=by omega
    rw [if_pos h]
    go_enter Tryz.func106,Tryz.ntmps106
    go_wp2
    go_ret
    exact ⟨rfl,(Below.refl _ w).alloc (Nat.le_refl _) _⟩
  · have h0:(i:Int) / 64=1:=by omega
    have h1:i / 64=1:=by omega
    rw [if_neg (by omega)]
    go_enter Tryz.func106,Tryz.ntmps106
    go_wp2
    go_ret
    exact ⟨rfl,(Below.refl _ w).alloc (Nat.le_refl _) _⟩
def orW (w:World) (y:PB) (a c:Int):World:=((w.alloc (.cells #[.int .u64 a,.int .u64 c] 153)).alloc (.cells #[.int .u64 y.a,.int .u64 y.c] 153)).alloc (.cells #[.int .u64 0,.int .u64 0] 153)
set_option maxRecDepth 100000 in
set_option maxHeartbeats 1000000 in
theorem bor_any (w:World) (x y:PB) :
    Calls Tryz.prog 105 #[x.val,y.val] w fun e w'=>e=.returned (x.or y).val∧Below w.heap.size w w':=by
  have i0:∀ w:World,(Instr.index 153 (.agg #[.int .u64 y.a,.int .u64 y.c]) (.int .i64 0)).run Tryz.prog w=.ok (.int .u64 y.a) w:=fun _=>by kernel_rfl
  have i1:∀ w:World,(Instr.index 153 (.agg #[.int .u64 y.a,.int .u64 y.c]) (.int .i64 1)).run Tryz.prog w=.ok (.int .u64 y.c) w:=fun _=>by kernel_rfl
  go_enter Tryz.func105,Tryz.ntmps105
  go_wp2
  go_loopw [5,6,8] (fun v5 v6 vk wr=>(vk=.int .i64 0∧wr=orW w y x.a x.c) ∨ (vk=.int .i64 1∧wr=orW w y (orI x.a y.a) x.c) ∨ (vk=.int .i64 2∧wr=orW w y (orI x.a y.a) (orI x.c y.c))) (fun _ _ vk _=>2 - (intOf vk).toNat)
  case atStart=>exact .inl ⟨rfl,rfl⟩
  case round=>
    rcases hrel with ⟨rfl,rfl⟩ | ⟨rfl,rfl⟩ | ⟨rfl,rfl⟩
    · unfold orW
      go_wp2
      exact ⟨.inr (.inl ⟨rfl,rfl⟩),by simp [intOf]⟩
    · unfold orW
      go_wp2
      exact ⟨.inr (.inr ⟨rfl,rfl⟩),by simp [intOf]⟩
    · unfold orW
      go_wp2
      go_returns
      refine ⟨rfl,?_⟩
      exact (((Below.refl _ w).alloc (Nat.le_refl _) _).alloc (by simp) _).alloc (by simp;omega) _
set_option maxRecDepth 100000 in
set_option maxHeartbeats 1000000 in
theorem bwith_any (w:World) (x:PB) (i:Nat) (hi:i < 128) :
    Calls Tryz.prog 144 #[x.val,.int .i64 (i:Int)] w fun e w'=>e=.returned (x.with i).val∧Below w.heap.size w w':=by
  unfold PB.with
  rcases Nat.lt_or_ge i 64 with h | h
  · have h0:(i:Int) / 64=0:=by omega
    have h1:i / 64=0:=by omega
    rw [if_pos h]
    go_enter Tryz.func144,Tryz.ntmps144
    go_wp2
    go_region
    go_wp2
    go_returns
    refine ⟨rfl,?_⟩
    exact (((Below.refl _ w).alloc (Nat.le_refl _) _).alloc (by simp) _).drew
  · have h0:(i:Int) / 64=1:=by omega
    have h1:i / 64=1:=by omega
    rw [if_neg (by omega)]
    go_enter Tryz.func144,Tryz.ntmps144
    go_wp2
    go_region
    go_wp2
    go_returns
    refine ⟨rfl,?_⟩
    exact (((Below.refl _ w).alloc (Nat.le_refl _) _).alloc (by simp) _).drew
end Pr
end Go.Proofs.YtpgcidpghmoibaaGreatDoor
