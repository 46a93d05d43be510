/-
  THE REFERENCE's RULES
  THE REFERENCE's RULES
  THE REFERENCE's READER
-/
import Derived.Test.YtpgcidpghmoibaaGreatDoorK03
import Derived.Test.YtpgcidpghmoibaaGreatDoorK04
namespace Go.Proofs.YtpgcidpghmoibaaGreatDoor
namespace Rf
open Go.RowKit
open G (PNode)
def boxOf (x:PNode) (v:Value × Value):Obj:=.cells #[.int .u8 (x.kind:Int),v.1,.bool x.other,v.2,.int .i64 (x.size:Int)] 118 (0,0)
structure NodeR (w:World) (g n:Nat) (x:PNode) (ra:Option Addr) (rc:Nat) (pa:Option Addr) (pc:Nat):Prop where
  d0:w.cell? ⟨g,n * 5,none⟩=some (.int .u8 (x.kind:Int))
  d1:w.cell? ⟨g,n * 5 + 1,none⟩=some (.slice ra x.ranges.length rc)
  d2:w.cell? ⟨g,n * 5 + 2,none⟩=some (.bool x.other)
  d3:w.cell? ⟨g,n * 5 + 3,none⟩=some (.slice pa x.parts.length pc)
  d4:w.cell? ⟨g,n * 5 + 4,none⟩=some (.int .i64 (x.size:Int))
  op:w.ownsRow 0 3 1 (.slice pa x.parts.length pc) x.parts.length (ints x.parts)
theorem RoAt.node {w:World} {b g cap:Nat} {T:List PNode} {Q:List Nat} {cs:Array Value} {vR:Value} {V:List (Value × Value)} (h:RoAt w b T Q cs (.slice (some ⟨g,0,none⟩) T.length cap) vR V) {n:Nat} {x:PNode} (hx:T[n]?=some x) :
    ∃ ra rc pa pc,NodeR w g n x ra rc pa pc:=by
  have hn:n < T.length:=(List.getElem?_eq_some_iff.1 hx).1
  obtain ⟨⟨rv,pv⟩,hu⟩:∃ u,V[n]?=some u:=⟨V[n]'(by rw [h.len];exact hn),List.getElem?_eq_getElem _⟩
  obtain ⟨oR,oP⟩:=h.oV n x (rv,pv) hx hu
  obtain ⟨ra,rc,hre⟩:=own_len oR
  obtain ⟨pa,pc,hpe⟩:=own_len oP
  simp only at hre hpe
  subst hre hpe
  exact ⟨ra,rc,pa,pc,own_cell' h.oN (n * 5 + 0) ((ncells_get hx hu 0 (by omega)).trans rfl),own_cell' h.oN (n * 5 + 1) ((ncells_get hx hu 1 (by omega)).trans rfl),own_cell' h.oN (n * 5 + 2) ((ncells_get hx hu 2 (by omega)).trans rfl),
    own_cell' h.oN (n * 5 + 3) ((ncells_get hx hu 3 (by omega)).trans rfl),own_cell' h.oN (n * 5 + 4) ((ncells_get hx hu 4 (by omega)).trans rfl),oP⟩
theorem NodeR.below {w w':World} {g n:Nat} {x:PNode} {ra:Option Addr} {rc:Nat} {pa:Option Addr} {pc:Nat} (h:NodeR w g n x ra rc pa pc) (hb:Below w.heap.size w w') (hg:g < w.heap.size):NodeR w' g n x ra rc pa pc:=
  ⟨(hb.cell (p:=⟨g,_,none⟩) hg).trans h.d0,(hb.cell (p:=⟨g,_,none⟩) hg).trans h.d1,(hb.cell (p:=⟨g,_,none⟩) hg).trans h.d2,(hb.cell (p:=⟨g,_,none⟩) hg).trans h.d3,(hb.cell (p:=⟨g,_,none⟩) hg).trans h.d4,own_same h.op (fun k e=>hb.block k (h.op.lt k e).2)⟩
theorem box_set {w:World} {bx:Nat} {t:TypeId} {a0 a1 a2 a3 a4:Value} (h:w.heap[bx]?=some (.cells #[a0,a1,a2,a3,a4] t (0,0))) (b0 b1 b2 b3 b4:Value) :
    (((((w.setCell ⟨bx,0,none⟩ b0).setCell ⟨bx,1,none⟩ b1).setCell ⟨bx,2,none⟩ b2).setCell ⟨bx,3,none⟩ b3).setCell ⟨bx,4,none⟩ b4).heap[bx]?=some (.cells #[b0,b1,b2,b3,b4] t (0,0)):=
  blk_set (blk_set (blk_set (blk_set (blk_set h 0 b0) 1 b1) 2 b2) 3 b3) 4 b4
theorem below_box {w0 w:World} {bx:Nat} (h:Below bx w0 w) (b0 b1 b2 b3 b4:Value) :
    Below bx w0 (((((w.setCell ⟨bx,0,none⟩ b0).setCell ⟨bx,1,none⟩ b1).setCell ⟨bx,2,none⟩ b2).setCell ⟨bx,3,none⟩ b3).setCell ⟨bx,4,none⟩ b4):=
  ((((h.setCell (Nat.le_refl _) _).setCell (Nat.le_refl _) _).setCell (Nat.le_refl _) _).setCell (Nat.le_refl _) _).setCell (Nat.le_refl _) _
set_option maxRecDepth 100000 in
set_option maxHeartbeats 2000000 in
theorem bare_any (w:World) (b:Nat) (T:List PNode) (Q:List Nat) (n:Nat) (cs:Array Value) (vN vR:Value) (V:List (Value × Value)) (h:RoAt w b T Q cs vN vR V) (hT:G.WF T) (htl:T.length≤100000) (hn:n < T.length) :
    Calls Tryz.prog 136 #[.pointer (some ⟨b,0,none⟩),.int .i64 (n:Int)] w fun e w'=>e=.returned (.int .i64 ((G.bare T n:Nat):Int))∧Below w.heap.size w w':=by
  have c5:=cell_blk h.blk 5 _ h.c5
  have hxT:T[n]?=some (T[n]'hn):=List.getElem?_eq_getElem hn
  generalize T[n]'hn=x at hxT
  obtain ⟨g,cap,hv,_,_⟩:=h.oN.form (by omega)
  subst hv
  have hgl:g < w.heap.size:=(h.oN.lt g rfl).2
  have hbl:=lt_of_block h.blk
  have hbx:b ≠ w.heap.size:=by omega
  have hgx:g ≠ w.heap.size:=by omega
  obtain ⟨ra,rc,pa,pc,⟨d0,d1,d2,d3,d4,_⟩⟩:=h.node hxT
  go_enter Tryz.func136,Tryz.ntmps136
  go_wp2
  go_loopw [1] (fun i wr=>∃ (m:Nat) (y:PNode) (ra:Option Addr) (rc:Nat) (pa:Option Addr) (pc:Nat),i=.int .i64 (m:Int)∧m < T.length∧T[m]?=some y∧NodeR w g m y ra rc pa pc∧G.bare T m=G.bare T n∧wr.heap[w.heap.size]?=some (boxOf y (.slice ra y.ranges.length rc,.slice pa y.parts.length pc))∧Below w.heap.size w wr)
    (fun i _=>(intOf i).toNat)
  case atStart=>exact ⟨n,x,ra,rc,pa,pc,rfl,hn,hxT,⟨d0,d1,d2,d3,d4,by assumption⟩,rfl,heap_alloc_new w _,(Below.refl _ _).alloc (Nat.le_refl _) _⟩
  case round =>
    clear d0 d1 d2 d3 d4 c5
    obtain ⟨m,y,ra,rc,pa,pc,rfl,hm,hym,hnd,hba,hbox,hbw⟩:=hrel
    have HB:Hid (G.bare T m=G.bare T n):=hba
    clear hba
    have hRo:=h.below hbw
    have c5:=cell_blk hRo.blk 5 _ hRo.c5
    have cb0:=cell_blk hbox 0 (.int .u8 (y.kind:Int)) rfl
    have cb1:=cell_blk hbox 1 (.slice ra y.ranges.length rc) rfl
    have cb2:=cell_blk hbox 2 (.bool y.other) rfl
    have cb3:=cell_blk hbox 3 (.slice pa y.parts.length pc) rfl
    have cb4:=cell_blk hbox 4 (.int .i64 (y.size:Int)) rfl
    cases hlo:G.lone y with
    | true =>
      obtain ⟨p,hp⟩:=G.lone_head hlo
      have hpm:=(hT m y hym).parts p (by rw [hp];simp)
      have hpT:p < T.length:=by omega
      have hzT:T[p]?=some (T[p]'hpT):=List.getElem?_eq_getElem hpT
      generalize T[p]'hpT=z at hzT
      obtain ⟨ra2,rc2,pa2,pc2,hnd2⟩:=h.node hzT
      obtain ⟨d0,d1,d2,d3,d4,_⟩:=hnd2.below hbw hgl
      have hop:=(hnd.below hbw hgl).op
      obtain ⟨gp,capp,hvp,_,_⟩:=hop.form (by rw [hp];simp)
      simp only [Value.slice.injEq] at hvp
      obtain ⟨rfl,_,rfl⟩:=hvp
      have cp:wr.cell? ⟨gp,0,none⟩=some (.int .i64 (p:Int)):=own_cell' hop 0 (by simp [ints,hp])
      have hlen:((y.parts.length:Int) == 1)=true:=by rw [hp];rfl
      have hlen2:(0:Int) < (y.parts.length:Int):=by rw [hp];simp
      have HS:Hid (G.bare T p=G.bare T n):=(G.bare_step hT hym hlo hp).symm.trans HB.out
      have hkk:((y.kind:Int) == 113)=true ∨ (((y.kind:Int) == 113)=false∧((y.kind:Int) == 99)=true):=by
        simp only [G.lone,Bool.and_eq_true,Bool.or_eq_true,decide_eq_true_eq] at hlo
        by_cases h1:y.kind=113
        · exact .inl (by simp;omega)
        · exact .inr ⟨by simp;omega,by simp;omega⟩
      have fb:=fun o=>free_blk hbox o
      have HBX:Hid _:=And.intro hbox hbw
      clear hp hlo hbox hbw
      rcases hkk with hk1 | ⟨hk1,hk2⟩
      all_goals
        go_wp2
        go_roundw
        case rel=>exact ⟨p,z,ra2,rc2,pa2,pc2,rfl,hpT,hzT,hnd2,HS.out,box_set HBX.out.1 _ _ _ _ _,below_box HBX.out.2 _ _ _ _ _⟩
        case measure=>simp [intOf];omega
    | false =>
      have HE:Hid (G.bare T n=m):=HB.out.symm.trans (G.bare_end hym hlo)
      have hcs:(((y.kind:Int) == 113)=false∧((y.kind:Int) == 99)=false) ∨ (((y.kind:Int) == 113)=true∧((y.parts.length:Int) == 1)=false) ∨ (((y.kind:Int) == 113)=false∧((y.kind:Int) == 99)=true∧((y.parts.length:Int) == 1)=false):=by
        by_cases h1:y.kind=113
        · refine .inr (.inl ⟨by simp;omega,?_⟩)
          simp [G.lone,h1] at hlo
          simp;omega
        · by_cases h2:y.kind=99
          · refine .inr (.inr ⟨by simp;omega,by simp;omega,?_⟩)
            simp [G.lone,h2] at hlo
            simp;omega
          · exact .inl ⟨by simp;omega,by simp;omega⟩
      clear hlo
      rcases hcs with ⟨h1,h2⟩ | ⟨h1,h2⟩ | ⟨h1,h2,h3⟩
      all_goals
        go_wp2
        go_ret
        exact ⟨ret_int (by rw [HE.out]),hbw⟩
end Rf
end Go.Proofs.YtpgcidpghmoibaaGreatDoor

namespace Go.Proofs.YtpgcidpghmoibaaGreatDoor
namespace Rf
open Go.RowKit
open G (PNode)
set_option maxRecDepth 100000 in
set_option maxHeartbeats 2000000 in
theorem rep_any (w:World) (b:Nat) (T:List PNode) (Q:List Nat) (n:Nat) (x:PNode) (cs:Array Value) (vN vR:Value) (V:List (Value × Value)) (h:RoAt w b T Q cs vN vR V) (hT:G.WF T) (htl:T.length≤100000) (hxT:T[n]?=some x) (hrp:G.reps x=true) :
    Calls Tryz.prog 137 #[.pointer (some ⟨b,0,none⟩),.int .i64 (n:Int)] w fun e w'=>e=.returned (.tuple #[.int .u8 ((G.rep T x.kind n).1:Int),.int .i64 ((G.rep T x.kind n).2:Int)])∧Below w.heap.size w w':=by
  have hn:n < T.length:=(List.getElem?_eq_some_iff.1 hxT).1
  have c5:=cell_blk h.blk 5 _ h.c5
  obtain ⟨g,cap,hv,_,_⟩:=h.oN.form (by omega)
  subst hv
  have hgl:g < w.heap.size:=(h.oN.lt g rfl).2
  have hbl:=lt_of_block h.blk
  obtain ⟨p,hp,hpn⟩:=G.reps_one hT hxT hrp
  have hpT:p < T.length:=by omega
  obtain ⟨ra,rc,pa,pc,⟨d0,d1,d2,d3,d4,op⟩⟩:=h.node hxT
  obtain ⟨gp,capp,hvp,_,_⟩:=op.form (by rw [hp];simp)
  simp only [Value.slice.injEq] at hvp
  obtain ⟨rfl,_,rfl⟩:=hvp
  have cp:w.cell? ⟨gp,0,none⟩=some (.int .i64 (p:Int)):=own_cell' op 0 (by simp [ints,hp])
  have hlen2:(0:Int) < (x.parts.length:Int):=by rw [hp];simp
  have hst:G.rep T x.kind n=G.rep T (G.mix x.kind x.kind) (G.bare T p):=G.rep_step hT hxT hrp hp
  rw [show G.mix x.kind x.kind=x.kind by simp [G.mix]] at hst
  have HST:Hid _:=hst
  have hble:=G.bare_le hT p
  have hzT:T[G.bare T p]?=some (T[G.bare T p]'(by omega)):=List.getElem?_eq_getElem _
  generalize T[G.bare T p]'_=z at hzT
  have hN:=bare_any w b T Q p cs _ vR V h hT htl hpT
  clear hst hp
  go_enter Tryz.func137,Tryz.ntmps137
  go_wp2_with (go_at_call 136
               refine hN.mono ?_
               rintro e w1 ⟨rfl,hb1⟩
               have hRo1:=h.below hb1
               clear c5 d0 d1 d2 d3 d4 cp
               have c5:=cell_blk hRo1.blk 5 _ hRo1.c5
               obtain ⟨ra1,rc1,pa1,pc1,hnd1⟩:=h.node hzT
               obtain ⟨d0,d1,d2,d3,d4,op1⟩:=hnd1.below hb1 hgl)
  go_loopw [1,6] (fun i kk wr=>∃ (m k:Nat) (y:PNode) (ra:Option Addr) (rc:Nat) (pa:Option Addr) (pc:Nat),i=.int .i64 (m:Int)∧kk=.int .u8 (k:Int)∧m < T.length∧T[m]?=some y∧NodeR w g m y ra rc pa pc∧G.rep T k m=G.rep T x.kind n∧wr.heap[w1.heap.size]?=some (boxOf y (.slice ra y.ranges.length rc,.slice pa y.parts.length pc))∧Below w1.heap.size w1 wr)
    (fun i _ _=>(intOf i).toNat)
  case atStart=>exact ⟨_,x.kind,z,ra1,rc1,pa1,pc1,rfl,rfl,by omega,hzT,hnd1,HST.out.symm,heap_alloc_new w1 _,(Below.refl _ _).alloc (Nat.le_refl _) _⟩
  case round =>
    clear d0 d1 d2 d3 d4 c5
    obtain ⟨m,k,y,ra,rc,pa,pc,rfl,rfl,hm,hym,hnd,hba,hbox,hbw1⟩:=hrel
    have HB:Hid (G.rep T k m=G.rep T x.kind n):=hba
    clear hba
    have hsz1:=hb1.size
    have hbw:Below w.heap.size w wr:=hb1.trans (hbw1.mono hsz1)
    have hRo:=h.below hbw
    have c5:=cell_blk hRo.blk 5 _ hRo.c5
    have hlb:=lt_of_block hbox
    have hbx:b ≠ w1.heap.size:=by omega
    have hgx:g ≠ w1.heap.size:=by omega
    have cb0:=cell_blk hbox 0 (.int .u8 (y.kind:Int)) rfl
    have cb1:=cell_blk hbox 1 (.slice ra y.ranges.length rc) rfl
    have cb2:=cell_blk hbox 2 (.bool y.other) rfl
    have cb3:=cell_blk hbox 3 (.slice pa y.parts.length pc) rfl
    have cb4:=cell_blk hbox 4 (.int .i64 (y.size:Int)) rfl
    cases hlo:G.reps y with
    | true =>
      obtain ⟨q,hq,hqm⟩:=G.reps_one hT hym hlo
      have hqT:q < T.length:=by omega
      have hble2:=G.bare_le hT q
      have huT:T[G.bare T q]?=some (T[G.bare T q]'(by omega)):=List.getElem?_eq_getElem _
      generalize T[G.bare T q]'_=u at huT
      have hop:=(hnd.below hbw hgl).op
      obtain ⟨gq,capq,hvq,_,_⟩:=hop.form (by rw [hq];simp)
      simp only [Value.slice.injEq] at hvq
      obtain ⟨rfl,_,rfl⟩:=hvq
      have cq:wr.cell? ⟨gq,0,none⟩=some (.int .i64 (q:Int)):=own_cell' hop 0 (by simp [ints,hq])
      have hlen3:(0:Int) < (y.parts.length:Int):=by rw [hq];simp
      have HS:Hid (G.rep T (G.mix k y.kind) (G.bare T q)=G.rep T x.kind n):=(G.rep_step hT hym hlo hq).symm.trans HB.out
      have hN2:=bare_any wr b T Q q cs _ vR V hRo hT htl hqT
      have hkk:((y.kind:Int) == 42)=true ∨ (((y.kind:Int) == 42)=false∧((y.kind:Int) == 43)=true) ∨ (((y.kind:Int) == 42)=false∧((y.kind:Int) == 43)=false∧((y.kind:Int) == 63)=true):=by
        simp only [G.reps,Bool.or_eq_true,decide_eq_true_eq] at hlo
        by_cases h1:y.kind=42
        · exact .inl (by simp;omega)
        · by_cases h2:y.kind=43
          · exact .inr (.inl ⟨by simp;omega,by simp;omega⟩)
          · exact .inr (.inr ⟨by simp;omega,by simp;omega,by simp;omega⟩)
      have hmx:(((y.kind:Int) != (k:Int))=true∧Hid (G.mix k y.kind=42)) ∨ (((y.kind:Int) != (k:Int))=false∧Hid (G.mix k y.kind=k)):=by
        by_cases h1:y.kind=k
        · exact .inr ⟨by simp;omega,by show G.mix k y.kind=k;simp [G.mix,h1]⟩
        · exact .inl ⟨by simp;omega,by show G.mix k y.kind=42;simp [G.mix,h1]⟩
      obtain ⟨ra2,rc2,pa2,pc2,hnd2⟩:=h.node huT
      have HBX:Hid _:=hbox
      clear hq hlo hbox
      rcases hmx with ⟨hm1,hm2⟩ | ⟨hm1,hm2⟩
      all_goals
        rcases hkk with hk1 | ⟨hk1,hk2⟩ | ⟨hk1,hk2,hk3⟩
      all_goals
        go_wp2_with (go_at_call 136
                     refine hN2.mono ?_
                     rintro e w2 ⟨rfl,hb2⟩
                     have hbw2:=hbw.trans (hb2.mono (by have:=hbw.size;omega))
                     have hbox2:w2.heap[w1.heap.size]?=_:=(hb2.block w1.heap.size hlb).trans HBX.out
                     have hRo2:=h.below hbw2
                     clear c5 cb0 cb1 cb2 cb3 cb4 cq
                     have c5:=cell_blk hRo2.blk 5 _ hRo2.c5
                     obtain ⟨d0,d1,d2,d3,d4,_⟩:=hnd2.below hbw2 hgl
                     have cb0:=cell_blk hbox2 0 (.int .u8 (y.kind:Int)) rfl
                     have cb1:=cell_blk hbox2 1 (.slice ra y.ranges.length rc) rfl
                     have cb2:=cell_blk hbox2 2 (.bool y.other) rfl
                     have cb3:=cell_blk hbox2 3 (.slice (some ⟨gq,0,none⟩) y.parts.length pc) rfl
                     have cb4:=cell_blk hbox2 4 (.int .i64 (y.size:Int)) rfl
                     have fb:=fun o=>free_blk hbox2 o
                     have HB2:Hid _:=And.intro hbox2 (hbw1.trans (hb2.mono (by have:=hbw1.size;omega)))
                     clear hbox2)
        go_roundw
        case rel=>exact ⟨_,_,u,ra2,rc2,pa2,pc2,rfl,rfl,by omega,huT,hnd2,by have:=HS.out;rw [hm2.out] at this;exact this,box_set HB2.out.1 _ _ _ _ _,below_box HB2.out.2 _ _ _ _ _⟩
        case measure=>simp [intOf];omega
    | false =>
      have HE:Hid (G.rep T x.kind n=(k,m)):=HB.out.symm.trans (G.rep_end hym hlo)
      have hcs:((y.kind:Int) == 42)=false∧((y.kind:Int) == 43)=false∧((y.kind:Int) == 63)=false:=by
        simp [G.reps] at hlo
        exact ⟨by simp;omega,by simp;omega,by simp;omega⟩
      obtain ⟨h1,h2,h3⟩:=hcs
      clear hlo
      go_wp2
      go_ret2
      exact ⟨by rw [HE.out];rfl,hbw⟩
end Rf
end Go.Proofs.YtpgcidpghmoibaaGreatDoor

namespace Go.Proofs.YtpgcidpghmoibaaGreatDoor
namespace Rf
open Go.RowKit
open G (PNode)
def hx (t:ByteArray) (i:Nat):Nat→Nat
  | 0=>0
  | k + 1=>16 * hx t i k + G.dig (U.at' t (i + k))
theorem hx_four (t:ByteArray) (i:Nat):hx t i 4=G.hexv t i:=by
  simp only [hx,G.hexv,Nat.add_zero]
  omega
theorem hexs_iff (t:ByteArray) (i:Nat):G.hexs t i=true ↔ ∀ m,m < 4→G.dig (U.at' t (i + m)) < 16:=by
  simp only [G.hexs,Bool.and_eq_true,decide_eq_true_eq]
  constructor
  · rintro ⟨⟨⟨h0,h1⟩,h2⟩,h3⟩ m hm
    match m,hm with
    | 0,_=>exact h0
    | 1,_=>exact h1
    | 2,_=>exact h2
    | 3,_=>exact h3
  · intro h
    exact ⟨⟨⟨h 0 (by omega),h 1 (by omega)⟩,h 2 (by omega)⟩,h 3 (by omega)⟩
theorem hx_lt (t:ByteArray) (i:Nat):∀ k,(∀ m,m < k→G.dig (U.at' t (i + m)) < 16)→hx t i k < 16 ^ k
  | 0,_=>by simp [hx]
  | k + 1,h=>by
    have h1:=hx_lt t i k (fun m hm=>h m (by omega))
    have h2:=h k (by omega)
    simp only [hx,Nat.pow_succ]
    omega
def hexV (t:ByteArray):Int:=if G.hexs t 0=true then (G.hexv t 0:Int) else -1
set_option maxRecDepth 100000 in
set_option maxHeartbeats 1000000 in
theorem hex_any (t:ByteArray) (w:World) (ht:t.size=4) :
    Calls Tryz.prog 172 #[.string t] w fun e w'=>e=.returned (.int .i64 (hexV t))∧w'=w:=by
  go_enter Tryz.func172,Tryz.ntmps172
  go_wp2
  go_loop [3,4] (fun n i=>∃ k:Nat,k≤4∧i=.int .i64 k∧n=.int .i64 (hx t 0 k)∧∀ m,m < k→G.dig (U.at' t (0 + m)) < 16) (fun _ i=>4 - (intOf i).toNat)
  case atStart=>exact ⟨0,by omega,rfl,rfl,by omega⟩
  case round =>
    obtain ⟨k,hk,rfl,rfl,hall⟩:=hrel
    have hlt16:=hx_lt t 0 k hall
    have hp:(16:Nat) ^ k≤16 ^ 4:=Nat.pow_le_pow_right (by omega) hk
    have hb:hx t 0 k≤65536:=by omega
    have hall':Hid (∀ m,m < k→G.dig (U.at' t (0 + m)) < 16):=hall
    clear hall hlt16 hp
    by_cases hlt:k < 4
    · have hl:k < t.size:=by omega
      have hg:=U.at_get t k hl
      have hc:=U.at_lt t k
      rw [← hg] at hc
      have HG:Hid ((t[k]'hl).toNat=U.at' t k):=hg
      clear hg
      have step:G.dig (t[k]'hl).toNat < 16→∀ m,m < k + 1→G.dig (U.at' t (0 + m)) < 16:=by
        intro h m hm
        by_cases e:m=k
        · subst e;rw [Nat.zero_add,← HG.out];exact h
        · exact hall'.out m (by omega)
      have val:hx t 0 (k + 1)=16 * hx t 0 k + G.dig (t[k]'hl).toNat:=by
        rw [hx,Nat.zero_add,HG.out]
      have HV:Hid _:=And.intro step val
      clear step val
      generalize hcc:(t[k]'hl).toNat=c at hc HV
      by_cases h1:48≤c∧c≤57
      · have hd:G.dig c=c - 48:=by simp [G.dig,h1]
        go_wp2
        all_goals
          go_round
          case rel=>exact ⟨k + 1,by omega,by go_num,by rw [HV.out.2,hd];go_num,HV.out.1 (by omega)⟩
          case measure=>simp [intOf];omega
      by_cases h2:97≤c∧c≤102
      · have hd:G.dig c=c - 87:=by simp [G.dig,h1,h2]
        go_wp2
        all_goals
          go_round
          case rel=>exact ⟨k + 1,by omega,by go_num,by rw [HV.out.2,hd];go_num,HV.out.1 (by omega)⟩
          case measure=>simp [intOf];omega
      by_cases h3:65≤c∧c≤70
      · have hd:G.dig c=c - 55:=by simp [G.dig,h1,h2,h3]
        go_wp2
        all_goals
          go_round
          case rel=>exact ⟨k + 1,by omega,by go_num,by rw [HV.out.2,hd];go_num,HV.out.1 (by omega)⟩
          case measure=>simp [intOf];omega
      · have hd:G.dig c=16:=by simp [G.dig,h1,h2,h3]
        have HF:Hid (hexV t=-1):=by
          show hexV t=-1
          unfold hexV
          rw [if_neg]
          intro h
          have:=(hexs_iff t 0).1 h k hlt
          rw [Nat.zero_add,← HG.out,hcc,hd] at this
          omega
        go_wp2
        all_goals
          go_ret
          exact ⟨ret_int HF.out.symm,rfl⟩
    · obtain rfl:k=4:=by omega
      have HF:Hid (hexV t=(hx t 0 4:Int)):=by
        show hexV t=_
        unfold hexV
        rw [if_pos ((hexs_iff t 0).2 hall'.out),hx_four]
      go_wp2
      go_ret
      exact ⟨ret_int HF.out.symm,rfl⟩
theorem at_extract (s:ByteArray) (a c k:Nat) (h:a + k < c) (hc:c≤s.size):U.at' (s.extract a c) k=U.at' s (a + k):=by
  have hk:k < (s.extract a c).size:=by rw [ByteArray.size_extract];omega
  rw [← U.at_get _ _ hk,← U.at_get s (a + k) (by omega),ByteArray.getElem_extract]
theorem hexV_extract (s:ByteArray) (a:Nat) (h:a + 4≤s.size):hexV (s.extract a (a + 4))=if G.hexs s a=true then (G.hexv s a:Int) else -1:=by
  unfold hexV G.hexs G.hexv
  rw [at_extract s a _ 0 (by omega) h,at_extract s a _ (0 + 1) (by omega) h,at_extract s a _ (0 + 2) (by omega) h,at_extract s a _ (0 + 3) (by omega) h]
  simp only [Nat.add_zero,Nat.zero_add]
end Rf
end Go.Proofs.YtpgcidpghmoibaaGreatDoor
