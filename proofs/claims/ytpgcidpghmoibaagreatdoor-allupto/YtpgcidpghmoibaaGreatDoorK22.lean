/-
  THE REFERENCE's STATES
  THE REFERENCE's STATES
  THE REFERENCE's STATES
  THE WALK of the reference's Units
-/
import Derived.Test.YtpgcidpghmoibaaGreatDoorK21
import Derived.Lib.QuietBelow
import Derived.Test.YtpgcidpghmoibaaGreatDoorK20
import Derived.Test.YtpgcidpghmoibaaGreatDoorK10
import Derived.Maps.AppendAt
namespace Go.Proofs.YtpgcidpghmoibaaGreatDoor
namespace Rf
open Go.RowKit
open G (PNode Lang)
theorem infoBool:(Tryz.prog.info? 4).map (fun i=>(i.zero,i.size,i.bytes))=some (some (.bool false),1,1):=by kernel_rfl
theorem make_marks (w:World) (n:Nat) (hn:n≤100000):∃ w',(Instr.makeSlice 217 (.int .i64 (n:Int)) (.int .i64 (n:Int))).run Tryz.prog w=.ok (.slice (some ⟨w.heap.size,0,none⟩) n n) w' ∧
    w'.ownsRow 0 4 1 (.slice (some ⟨w.heap.size,0,none⟩) n n) n (bools (List.replicate n false))∧Below w.heap.size w w'∧w.heap.size < w'.heap.size:=by
  obtain ⟨i,hi,hz⟩:=Option.map_eq_some_iff.1 infoBool
  simp only [Prod.mk.injEq] at hz
  obtain ⟨z1,z2,z3⟩:=hz
  obtain ⟨w',h1,h2,h3⟩:=run_make_full (P:=Tryz.prog) w 0 217 4 i (.bool false) 1 (by kernel_rfl) hi z1 z2 .i64 .i64 n (by rw [z3];omega) (by unfold maxLen;omega) (Nat.zero_le _)
  have e:(madeCells (Value.bool false).cells (n * 1)).toList=bools (List.replicate n false):=by
    rw [Nat.mul_one]
    have:(Value.bool false).cells=#[.bool false]:=rfl
    rw [this,toList_madeCells_one]
    simp [bools]
  rw [e] at h2
  exact ⟨w',h1,h2,⟨h3.os,h3.tape,h3.output,h3.size,fun k hk=>h3.block k hk (by simp)⟩,(h2.lt w.heap.size rfl).2⟩
structure UAt (w:World) (pu:Option Addr) (us:List Int) (H:Nat):Prop where
  at':∀ (i:Nat) (c:Int),us[i]?=some c→∃ g off,pu=some ⟨g,off,none⟩∧g < H∧w.cell? ⟨g,off + i,none⟩=some (.int .i64 c)
theorem UAt.below {w w':World} {pu:Option Addr} {us:List Int} {H:Nat} (h:UAt w pu us H) (hb:Below H w w'):UAt w' pu us H:=
  ⟨fun i c hc=>by
    obtain ⟨g,off,h1,h2,h3⟩:=h.at' i c hc
    exact ⟨g,off,h1,h2,(hb.cell (p:=⟨g,off + i,none⟩) h2).trans h3⟩⟩
structure NdAt (w:World) (b:Nat) (T:List PNode) (I:Nat→Prop) (n:Nat) (y:PNode):Prop where
  ex:∃ gN capN ra rc pa pc,w.cell? ⟨b,5,none⟩=some (.slice (some ⟨gN,0,none⟩) T.length capN)∧w.cell? ⟨gN,n * 5,none⟩=some (.int .u8 (y.kind:Int))∧w.cell? ⟨gN,n * 5 + 1,none⟩=some (.slice ra y.ranges.length rc)∧w.cell? ⟨gN,n * 5 + 2,none⟩=some (.bool y.other)∧w.cell? ⟨gN,n * 5 + 3,none⟩=some (.slice pa y.parts.length pc)∧w.cell? ⟨gN,n * 5 + 4,none⟩=some (.int .i64 (y.size:Int))∧w.ownsRow 0 201 2 (.slice ra y.ranges.length rc) y.ranges.length (rcells y.ranges)∧I gN
theorem RfAt.nd {w:World} {b:Nat} {T:List PNode} {Q:List Nat} {L:List PState} {B F:List Nat} {I:Nat→Prop} (h:RfAt w b T Q L B F I) {n:Nat} {y:PNode} (hy:T[n]?=some y):NdAt w b T I n y:=by
  obtain ⟨cs,vN,vR,vS,vB,vF,V,W,h1,h2⟩:=h.ex
  have hn:n < T.length:=(List.getElem?_eq_some_iff.1 hy).1
  obtain ⟨⟨rv,pv⟩,hu⟩:∃ u,V[n]?=some u:=⟨V[n]'(by rw [h1.ro.len];exact hn),List.getElem?_eq_getElem _⟩
  obtain ⟨oR,oP⟩:=h1.ro.oV n y (rv,pv) hy hu
  obtain ⟨ra,rc,hre⟩:=own_len oR
  obtain ⟨pa,pc,hpe⟩:=own_len oP
  simp only at hre hpe
  subst hre hpe
  obtain ⟨g,cap,hv,_,_⟩:=h1.ro.oN.form (by omega)
  subst hv
  exact ⟨g,cap,ra,rc,pa,pc,cell_blk h1.ro.blk 5 _ h1.ro.c5,own_cell' h1.ro.oN (n * 5 + 0) ((ncells_get hy hu 0 (by omega)).trans rfl),own_cell' h1.ro.oN (n * 5 + 1) ((ncells_get hy hu 1 (by omega)).trans rfl),own_cell' h1.ro.oN (n * 5 + 2) ((ncells_get hy hu 2 (by omega)).trans rfl),own_cell' h1.ro.oN (n * 5 + 3) ((ncells_get hy hu 3 (by omega)).trans rfl),own_cell' h1.ro.oN (n * 5 + 4) ((ncells_get hy hu 4 (by omega)).trans rfl),oR,h2 _ (.inr (.inr (.inr (.inr (.inl rfl)))))⟩
structure BfAt (w:World) (b:Nat) (L:List PState) (B F:List Nat) (j r lo hi:Nat):Prop where
  ex:∃ gB capB gF capF gS capS,w.cell? ⟨b,9,none⟩=some (.slice (some ⟨gB,0,none⟩) B.length capB)∧w.cell? ⟨b,10,none⟩=some (.slice (some ⟨gF,0,none⟩) F.length capF)∧w.cell? ⟨b,8,none⟩=some (.slice (some ⟨gS,0,none⟩) L.length capS)∧w.cell? ⟨gB,j,none⟩=some (.int .i64 (r:Int))∧w.cell? ⟨gF,j,none⟩=some (.int .i64 (lo:Int))∧w.cell? ⟨gF,j + 1,none⟩=some (.int .i64 (hi:Int))
theorem RfAt.bf {w:World} {b:Nat} {T:List PNode} {Q:List Nat} {L:List PState} {B F:List Nat} {I:Nat→Prop} (h:RfAt w b T Q L B F I) {j r lo hi:Nat} (hB:B[j]?=some r) (hF:F[j]?=some lo) (hF1:F[j + 1]?=some hi) (hL:0 < L.length):BfAt w b L B F j r lo hi:=by
  obtain ⟨cs,vN,vR,vS,vB,vF,V,W,h1,h2⟩:=h.ex
  have l1:j < B.length:=(List.getElem?_eq_some_iff.1 hB).1
  have l2:j < F.length:=(List.getElem?_eq_some_iff.1 hF).1
  obtain ⟨gB,capB,hvB,_,_⟩:=h1.oB.form (by omega)
  obtain ⟨gF,capF,hvF,_,_⟩:=h1.oF.form (by omega)
  obtain ⟨gS,capS,hvS,_,_⟩:=h1.oS.form (by omega)
  subst hvB hvF hvS
  exact ⟨gB,capB,gF,capF,gS,capS,cell_blk h1.ro.blk 9 _ h1.c9,cell_blk h1.ro.blk 10 _ h1.c10,cell_blk h1.ro.blk 8 _ h1.c8,own_cell' h1.oB j (by simp [ints,hB]),own_cell' h1.oF j (by simp [ints,hF]),own_cell' h1.oF (j + 1) (by simp [ints,hF1])⟩
end Rf
end Go.Proofs.YtpgcidpghmoibaaGreatDoor

namespace Go.Proofs.YtpgcidpghmoibaaGreatDoor
namespace Rf
open Go.RowKit
open G (PNode Lang)
structure MInv (w:World) (b:Nat) (T:List PNode) (Q:List Nat) (L:List PState) (B F:List Nat) (I:Nat→Prop) (q r:Nat) (us:List Int) (k best gM:Nat) (M:List Bool) (wr:World):Prop where
  be:Below w.heap.size w wr
  gm:w.heap.size≤gM
  row:wr.ownsRow 0 4 1 (.slice (some ⟨gM,0,none⟩) L.length L.length) L.length (bools M)
  len:M.length=L.length
  mks:Marks T L r (us.take k) M
  mt:MostTo (G.lang T q) us k best
structure NInv (w:World) (T:List PNode) (L:List PState) (us:List Int) (k lo gM gN s:Nat) (c:Int) (M Mn:List Bool) (sm:Bool) (wr:World):Prop where
  be:Below w.heap.size w wr
  gn:w.heap.size≤gN
  ne:gM ≠ gN
  rowM:wr.ownsRow 0 4 1 (.slice (some ⟨gM,0,none⟩) L.length L.length) L.length (bools M)
  rowN:wr.ownsRow 0 4 1 (.slice (some ⟨gN,0,none⟩) L.length L.length) L.length (bools Mn)
  len:Mn.length=L.length
  mks:MarksTo T L M c lo s Mn
  cl:Cl L Mn
  no:sm=false→∀ m x n y,lo≤m→m < s→tr M m→L[m]?=some x→x.node=((n:Nat):Int)→T[n]?=some y→G.inV y c=false
theorem NInv.pass {w:World} {T:List PNode} {L:List PState} {us:List Int} {k lo gM gN s:Nat} {c:Int} {M Mn:List Bool} {sm:Bool} {wr wr':World} (h:NInv w T L us k lo gM gN s c M Mn sm wr) (hb:Below wr.heap.size wr wr') (hno:∀ x n y,tr M s→L[s]?=some x→x.node=((n:Nat):Int)→T[n]?=some y→G.inV y c=false):NInv w T L us k lo gM gN (s + 1) c M Mn sm wr' where
  be:=h.be.trans (hb.mono h.be.size)
  gn:=h.gn
  ne:=h.ne
  rowM:=own_same h.rowM (fun i e=>hb.block i (h.rowM.lt i e).2)
  rowN:=own_same h.rowN (fun i e=>hb.block i (h.rowN.lt i e).2)
  len:=h.len
  mks:=h.mks.pass hno
  cl:=h.cl
  no hs m x n y h1 h2 h3 h4 h5 h6:=by
    by_cases e:m=s
    · subst e;exact hno x n y h3 h4 h5 h6
    · exact h.no hs m x n y h1 (by omega) h3 h4 h5 h6
set_option maxRecDepth 100000 in
set_option maxHeartbeats 4000000 in
theorem most_any (w:World) (b:Nat) (T:List PNode) (Q:List Nat) (L:List PState) (B F:List Nat) (I:Nat→Prop) (hR:RfAt w b T Q L B F I) (hA:AllS T Q L B F) (hll:L.length≤100000) (_hnl:T.length≤100000) (hrl:∀ y ∈ T,y.ranges.length≤100000) (j q:Nat) (hj:Q[j]?=some q) (hql:Q.length≤100000) (us:List Int) (hul:us.length≤100000) (pu:Option Addr) (cu:Nat) (hU:UAt w pu us w.heap.size) :
    Calls Tryz.prog 119 #[.pointer (some ⟨b,0,none⟩),.int .i64 (j:Int),.slice pu us.length cu] w fun e w'=>(∃ n:Nat,e=.returned (.int .i64 (n:Int))∧Most (G.lang T q) us n)∧Below w.heap.size w w':=by
  obtain ⟨r,lo,hi,hB,hF,hF1,hRu⟩:=hA.rule j q hj
  have hL0:0 < L.length:=(List.getElem?_eq_some_iff.1 hA.zero).1
  obtain ⟨gB,capB,gF,capF,gS,capS,c9,c10,c8,cB,cF,cF1⟩:=(hR.bf hB hF hF1 hL0).ex
  have hjl:j < Q.length:=(List.getElem?_eq_some_iff.1 hj).1
  have hjB:j < B.length:=by rw [hA.lenB];exact hjl
  have hjF:j + 1 < F.length:=by rw [hA.lenF];omega
  have hbl:=hR.lt b (by obtain ⟨_,_,_,_,_,_,_,_,_,h2⟩:=hR.ex;exact h2 b (.inl rfl))
  obtain ⟨w1,hm1,ho1,hb1,hs1⟩:=make_marks w L.length hll
  have hR1:=hR.below hb1
  have hI1:¬ I w.heap.size:=fun h=>by have:=hR.lt _ h;omega
  have hSp:=spread_any b T Q L B F I hA.shp hll (nots (List.replicate L.length false) + 1) w1 w.heap.size L.length r (List.replicate L.length false) (Nat.lt_succ_self _) hR1 hI1 ho1 (by simp) hRu.beg
  have hrl':=hRu.beg
  obtain ⟨gB1,capB1,gF1,capF1,gS1,capS1,d9,d10,d8,dB,dF,dF1⟩:=(hR1.bf hB hF hF1 hL0).ex
  have HA:Hid (AllS T Q L B F):=hA
  have HB:Hid (B[j]?=some r∧F[j]?=some lo∧F[j + 1]?=some hi):=⟨hB,hF,hF1⟩
  clear hA hB hF hF1
  go_enter Tryz.func119,Tryz.ntmps119
  go_wp2_with (go_at_call 139;refine hSp.mono ?_;rintro e w2 ⟨rfl,M1,hS1,hrow1,hk1⟩)
  have h0:MInv w b T Q L B F I q r us 0 0 w.heap.size M1 w2:=by
    have hz:=hk1.size
    refine ⟨hb1.trans ⟨hk1.os,hk1.tape,hk1.output,by omega,fun k hk=>hk1.block k (by omega) (by omega)⟩,Nat.le_refl _,hrow1,by rw [hS1.len];simp,fun i=>?_,MostTo.zero _ _⟩
    rw [hS1.iff (Cl.none _) i]
    constructor
    · rintro (h | h)
      · exact absurd h (tr_none _ i)
      · exact h
    · intro h;exact .inr h
  have H0:Hid _:=h0
  clear h0 hS1 hrow1 hk1 hSp d8 d9 d10 dB dF dF1 hR1 hI1 hm1 ho1 hb1 hs1 c8 c9 c10 cB cF cF1
  go_loopw [7,8,9,10,11,12,13,14] (fun vb vm vk _ _ _ _ _ wr=>∃ (k best gM:Nat) (M:List Bool),vk=.int .i64 k∧vb=.int .i64 best∧vm=.slice (some ⟨gM,0,none⟩) L.length L.length∧k≤us.length∧MInv w b T Q L B F I q r us k best gM M wr) (fun _ _ vk _ _ _ _ _ _=>us.length - (intOf vk).toNat)
  case atStart=>exact ⟨0,0,w.heap.size,M1,rfl,rfl,rfl,Nat.zero_le _,H0.out⟩
  case round =>
    obtain ⟨k,best,gM,M,rfl,rfl,rfl,hk,hM⟩:=hrel
    rename World=>wo
    by_cases hlt:k < us.length
    · have hc:us[k]?=some (us[k]'hlt):=List.getElem?_eq_getElem hlt
      generalize us[k]'hlt=c at hc
      have hRr:=hR.below hM.be
      obtain ⟨hB,hF,hF1⟩:=HB.out
      obtain ⟨w3,hm3,ho3,hb3,hs3⟩:=make_marks wo L.length hll
      have hR3:=hRr.below hb3
      obtain ⟨gB2,capB2,gF2,capF2,gS2,capS2,a9,a10,a8,aB,aF,aF1⟩:=(hRr.bf hB hF hF1 hL0).ex
      obtain ⟨gB3,capB3,gF3,capF3,gS3,capS3,d9,d10,d8,dB,dF,dF1⟩:=(hR3.bf hB hF hF1 hL0).ex
      have hsz:=hM.be.size
      have hN0:NInv w T L us k lo gM wo.heap.size lo c M (List.replicate L.length false) false w3:=
        ⟨hM.be.trans (hb3.mono hsz),by omega,fun e=>by have:=(hM.row.lt gM rfl).2;omega,own_same hM.row (fun i e=>hb3.block i (hM.row.lt i e).2),ho3,by simp,MarksTo.zero _ _ _,Cl.none _,fun _ m x n y h1 h2=>by omega⟩
      have HN:Hid _:=hN0
      clear hN0 hB hF hF1
      go_wp2
      clear a8 a9 a10 aB aF aF1 d8 d9 d10 dB dF dF1 hm3
      go_loopw [11,12,13,14] (fun vs vi _ _ wr'=>∃ (s:Nat) (Mn:List Bool) (sm:Bool),vi=.int .i64 s∧vs=.bool sm∧lo≤s∧s≤hi∧NInv w T L us k lo gM wo.heap.size s c M Mn sm wr') (fun _ vi _ _ _=>hi - (intOf vi).toNat)
      case atStart=>exact ⟨lo,_,false,rfl,rfl,Nat.le_refl _,hRu.le,HN.out⟩
      case round =>
        obtain ⟨s,Mn,sm,rfl,rfl,hlo,hhi,hN⟩:=hrel
        have hRs:=hR.below hN.be
        obtain ⟨hB,hF,hF1⟩:=HB.out
        obtain ⟨gB4,capB4,gF4,capF4,gS4,capS4,d9,d10,d8,dB,dF,dF1⟩:=(hRs.bf hB hF hF1 hL0).ex
        clear hB hF hF1
        have rN:=hN.rowN
        have fN:=fun o=>rN.frozenAt o
        have hn0:Mn[0]?=some (Mn[0]'(by rw [hN.len];exact hL0)):=List.getElem?_eq_getElem _
        generalize Mn[0]'(by rw [hN.len];exact hL0)=m0 at hn0
        have cn0:wr.cell? ⟨wo.heap.size,0,none⟩=some (.bool m0):=own_cell' rN 0 (by simp [bools,hn0])
        by_cases hls:s < hi
        · have hsl:s < L.length:=by have:=hRu.top;omega
          have hxL:L[s]?=some (L[s]'hsl):=List.getElem?_eq_getElem hsl
          generalize L[s]'hsl=x at hxL
          have hms:M[s]?=some (M[s]'(by rw [hM.len];exact hsl)):=List.getElem?_eq_getElem _
          generalize M[s]'(by rw [hM.len];exact hsl)=m at hms
          have cm:wr.cell? ⟨gM,s,none⟩=some (.bool m):=own_cell' hN.rowM s (by simp [bools,hms])
          have hgM:=(hN.rowM.lt gM rfl).2
          clear d8 d9 dB fN rN cn0 hn0
          obtain ⟨gS5,capS5,pa,pc,e8,e0,e1,oW,iS,iW,ib⟩:=(hRs.st hxL).ex
          obtain ⟨hn1,hn2,hn3⟩:=HA.out.shp x (List.mem_of_getElem? hxL)
          have hbb:Below wr.heap.size wr (wr.alloc (.cells #[.int .i64 x.node,.slice pa x.next.length pc] 194)):=(Below.refl _ _).alloc (Nat.le_refl _) _
          have HBB:Hid _:=hbb
          clear hbb
          have hgSl:=hRs.lt gS5 iS
          have hbw:=hN.be.size
          cases m with
          | false =>
            go_wp2
            go_roundw
            case rel=>exact ⟨s + 1,Mn,sm,by go_num,rfl,by omega,by omega,hN.pass HBB.out (fun x n y h=>by unfold tr at h;rw [hms] at h;simp at h)⟩
            case measure=>simp [intOf];omega
          | true =>
            rcases hn3 with hn3 | ⟨n,y,t,hn3,hy,hyk,hnx⟩
            · have hneg:x.node < 0:=by omega
              have HN3:Hid (x.node=-1):=hn3
              clear hn3
              go_wp2
              go_roundw
              case rel=>exact ⟨s + 1,Mn,sm,by go_num,rfl,by omega,by omega,hN.pass HBB.out (fun x' n y _ h=>by rw [hxL] at h;simp only [Option.some.injEq] at h;subst h;intro h2;have:=HN3.out;omega)⟩
              case measure=>simp [intOf];omega
            · have hneg:¬ x.node < 0:=by omega
              have hpos:0 < x.next.length:=by rw [hnx];simp
              have htl:t < L.length:=hn1 t (by rw [hnx];simp)
              have hnt:x.next[0]?=some t:=by rw [hnx];rfl
              have HNT:Hid (x.next[0]?=some t):=hnt
              clear hnx hyk hnt
              have hb5:Below wr.heap.size wr (wr.alloc (.cells #[.int .i64 (n:Int),.slice pa x.next.length pc] 194)):=(Below.refl _ _).alloc (Nat.le_refl _) _
              have hx5:(wr.alloc (.cells #[.int .i64 (n:Int),.slice pa x.next.length pc] 194)).heap[wr.heap.size]?=_:=heap_alloc_new wr _
              have H5:Hid _:=hb5
              have HX5:Hid _:=hx5
              clear hb5 hx5 HBB
              go_wp2
              clear d10 dF dF1 cm e8 e0 e1
              have hb5:=H5.out
              have hx5:=HX5.out
              clear H5 HX5
              generalize wr.alloc (.cells #[.int .i64 (n:Int),.slice pa x.next.length pc] 194)=w5 at *
              have hN5:=hN.be.trans (hb5.mono hbw)
              have hR5:=hRs.below hb5
              obtain ⟨gN,capN,ra,rc,pa',pc',n5,k0,k1,k2,k3,k4,oR,iN⟩:=(hR5.nd hy).ex
              obtain ⟨gu,offu,hpu,hgu,cu5⟩:=(hU.below hN5).at' k c hc
              have b0:=cell_blk hx5 0 (.int .i64 (n:Int)) rfl
              have b1:=cell_blk hx5 1 (.slice pa x.next.length pc) rfl
              have hnT:n < T.length:=(List.getElem?_eq_some_iff.1 hy).1
              subst hpu
              have hyr:=hrl y (List.mem_of_getElem? hy)
              have oW5:=own_same oW (fun i e=>hb5.block i (oW.lt i e).2)
              obtain ⟨gp,capp,hvp,_,_⟩:=oW5.form (by omega)
              simp only [Value.slice.injEq] at hvp
              obtain ⟨rfl,_,rfl⟩:=hvp
              have hz5:=hb5.size
              have hxl5:=lt_of_block hx5
              have hN1:∀ d os,Calls Tryz.prog 85 #[.agg #[.int .u8 (y.kind:Int),.slice ra y.ranges.length rc,.bool y.other,.slice pa' y.parts.length pc',.int .i64 (y.size:Int)],.int .i64 c] (Sort.grow (redrawn w5 d) os) fun e w''=>e=.returned (.bool (G.inV y c))∧∃ p:Regrown,w''=Sort.grow (redrawn w5 p.d) p.os:=
                fun d os=>Calls.regrown_of (in_any _ y y.kind (y.size:Int) ra pa' rc y.parts.length pc' c (own_same oR (fun i e=>(below_regrown w5 d os).block i (oR.lt i e).2)) hyr)
              have q5:=fun d os=>cell_regrown n5 d os
              have g0:=fun d os=>cell_regrown k0 d os
              have g1:=fun d os=>cell_regrown k1 d os
              have g2:=fun d os=>cell_regrown k2 d os
              have g3:=fun d os=>cell_regrown k3 d os
              have g4:=fun d os=>cell_regrown k4 d os
              have gu':=fun d os=>cell_regrown cu5 d os
              have gb:=fun d os=>cell_regrown b0 d os
              clear n5 k0 k1 k2 k3 k4 cu5 b0 b1
              refine wp_region_quiet_below (by kernel_rfl) (by kernel_rfl) ?_
              repeat (first | go_big_quiet_step (exact hN1 _ _) | quiet_step (exact hN1 _ _))
              refine wpQuiet_nil ?_
              intro _ hw'
              obtain ⟨⟨dq,osq⟩,hw''⟩:=hw'
              subst hw''
              have hb6:=below_regrown w5 dq osq
              generalize Sort.grow (redrawn w5 dq) osq=w6 at hb6 ⊢
              clear q5 g0 g1 g2 g3 g4 gu' gb hN1
              have hbw6:Below wr.heap.size wr w6:=hb5.trans (hb6.mono hz5)
              cases hin:G.inV y c with
              | false =>
                have HP:Hid (NInv w T L us k lo gM wo.heap.size (s + 1) c M Mn sm w6):=hN.pass hbw6 (fun x' n' y' _ h h2 h3=>by
                  rw [hxL] at h
                  simp only [Option.some.injEq] at h
                  subst h
                  have e:n'=n:=by omega
                  subst e
                  rw [hy] at h3
                  simp only [Option.some.injEq] at h3
                  subst h3
                  exact hin)
                clear hin
                go_wp2
                go_roundw
                case rel=>exact ⟨s + 1,Mn,sm,by go_num,rfl,by omega,by omega,HP.out⟩
                case measure=>simp [intOf];omega
              | true =>
                have hx6:=(hb6.block _ hxl5).trans hx5
                have p0:=cell_blk hx6 0 (.int .i64 (n:Int)) rfl
                have p1:=cell_blk hx6 1 (.slice (some ⟨gp,0,none⟩) x.next.length pc) rfl
                have cp:w6.cell? ⟨gp,0,none⟩=some (.int .i64 (t:Int)):=own_cell' (own_same oW5 (fun i e=>hb6.block i (oW5.lt i e).2)) 0 (by simp [ints,HNT.out])
                have hSp2:=spread_any b T Q L B F I HA.out.shp hll (nots Mn + 1) w6 wo.heap.size L.length t Mn (Nat.lt_succ_self _) (hRs.below hbw6) (fun h=>by have:=hR.lt _ h;omega) (own_same hN.rowN (fun i e=>hbw6.block i (hN.rowN.lt i e).2)) hN.len htl
                have hTk:∀ w7 M2,Sp T L Mn t M2→w7.ownsRow 0 4 1 (.slice (some ⟨wo.heap.size,0,none⟩) L.length L.length) L.length (bools M2)→Kept (fun k=>k ≠ wo.heap.size) w6 w7→NInv w T L us k lo gM wo.heap.size (s + 1) c M M2 true w7:=by
                  intro w7 M2 g1 g2 g3
                  have hs6:=hbw6.size
                  have hs7:=g3.size
                  have hgm:∀ i,(Value.slice (some ⟨gM,0,none⟩) L.length L.length).ownBlock=some i→i ≠ wo.heap.size:=fun i e e2=>by
                    have:gM=i:=by simpa [Value.ownBlock] using e
                    exact hN.ne (this.trans e2)
                  exact ⟨(hN.be.trans (hbw6.mono hbw)).trans ⟨g3.os,g3.tape,g3.output,by omega,fun i hi=>g3.block i (by omega) (by omega)⟩,hN.gn,hN.ne,own_same hN.rowM (fun i e=>(g3.block i (by have:=(hN.rowM.lt i e).2;omega) (hgm i e)).trans (hbw6.block i (hN.rowM.lt i e).2)),g2,by rw [g1.len];exact hN.len,hN.mks.take hlo hms hxL hn3 hy HNT.out hin g1 hN.cl,g1.closed hN.cl,fun h=>by cases h⟩
                have HTk:Hid _:=hTk
                clear hTk hin
                go_wp2_with (go_at_call 139;refine hSp2.mono ?_;rintro e w7 ⟨rfl,M2,g1,g2,g3⟩)
                go_roundw
                case rel=>exact ⟨s + 1,M2,true,by go_num,rfl,by omega,by omega,HTk.out w7 M2 g1 g2 g3⟩
                case measure=>simp [intOf];omega
        · have e:s=hi:=by omega
          subst e
          clear d8 d9 dB fN rN
          cases sm with
          | false =>
            have HMo:Hid (Most (G.lang T q) us best):=Marks.stop HA.out.zero hRu hc hM.mks (hN.no rfl) hM.mt
            go_wp2
            go_ret
            exact ⟨⟨best,rfl,HMo.out⟩,hN.be⟩
          | true =>
            have hmk:=hM.mks.next HA.out.zero hRu hN.mks
            have htk:us.take (k + 1)=us.take k ++ [c]:=by rw [List.take_add_one,hc];rfl
            rw [← htk] at hmk
            have hend:tr Mn 0 ↔ G.lang T q (us.take (k + 1)):=(hmk 0).trans (hRu.ends HA.out.zero _)
            cases m0 with
            | true =>
              have hI:MInv w b T Q L B F I q r us (k + 1) (k + 1) wo.heap.size Mn wr:=⟨hN.be,hsz,hN.rowN,hN.len,hmk,hM.mt.yes (hend.1 hn0)⟩
              have HI:Hid _:=hI
              clear hI hend hmk htk
              go_wp2
              go_roundw
              case rel=>exact ⟨k + 1,k + 1,wo.heap.size,Mn,by go_num,by go_num,rfl,by omega,HI.out⟩
              case measure=>simp [intOf];omega
            | false =>
              have hI:MInv w b T Q L B F I q r us (k + 1) best wo.heap.size Mn wr:=⟨hN.be,hsz,hN.rowN,hN.len,hmk,hM.mt.no (fun h=>by have:=hend.2 h;unfold tr at this;rw [hn0] at this;simp at this)⟩
              have HI:Hid _:=hI
              clear hI hend hmk htk
              go_wp2
              go_roundw
              case rel=>exact ⟨k + 1,best,wo.heap.size,Mn,by go_num,rfl,rfl,by omega,HI.out⟩
              case measure=>simp [intOf];omega
    · have e:k=us.length:=by omega
      subst e
      go_wp2
      go_ret
      exact ⟨⟨best,rfl,hM.mt.all⟩,hM.be⟩
end Rf
end Go.Proofs.YtpgcidpghmoibaaGreatDoor

namespace Go.Proofs.YtpgcidpghmoibaaGreatDoor
namespace Rf
open Go.RowKit
open G (PNode Lang)
theorem RfAt.rules {w:World} {b:Nat} {T:List PNode} {Q:List Nat} {L:List PState} {B F:List Nat} {I:Nat→Prop} (h:RfAt w b T Q L B F I):∃ ra rc,w.cell? ⟨b,7,none⟩=some (.slice ra Q.length rc):=by
  obtain ⟨cs,vN,vR,vS,vB,vF,V,W,h1,h2⟩:=h.ex
  obtain ⟨ra,rc,hre⟩:=own_len h1.ro.oR
  subst hre
  exact ⟨ra,rc,cell_blk h1.ro.blk 7 _ h1.ro.c7⟩
set_option maxRecDepth 100000 in
set_option maxHeartbeats 2000000 in
theorem longest_any (w:World) (b:Nat) (T:List PNode) (Q:List Nat) (L:List PState) (B F:List Nat) (I:Nat→Prop) (hR:RfAt w b T Q L B F I) (hA:AllS T Q L B F) (hll:L.length≤100000) (hnl:T.length≤100000) (hrl:∀ y ∈ T,y.ranges.length≤100000) (hql:Q.length≤100000) (us:List Int) (hul:us.length≤100000) (pu:Option Addr) (cu:Nat) (hU:UAt w pu us w.heap.size) :
    Calls Tryz.prog 88 #[.pointer (some ⟨b,0,none⟩),.slice pu us.length cu] w fun e w'=>(∃ (n:Nat) (r:Int),e=.returned (.tuple #[.int .i64 (n:Int),.int .i64 r])∧G.Long T Q us n r)∧Below w.heap.size w w':=by
  have HA:Hid _:=hA
  clear hA
  go_enter Tryz.func88,Tryz.ntmps88
  go_wp2
  go_loopw [6,7,8,9] (fun vb vr vi _ wr=>∃ (k n:Nat) (r:Int),vi=.int .i64 k∧vb=.int .i64 n∧vr=.int .i64 r∧k≤Q.length∧G.LongTo T Q us k n r∧Below w.heap.size w wr) (fun _ _ vi _ _=>Q.length - (intOf vi).toNat)
  case atStart=>exact ⟨0,0,-1,rfl,rfl,rfl,Nat.zero_le _,G.LongTo.zero _ _ _,Below.refl _ _⟩
  case round =>
    obtain ⟨k,n,r,rfl,rfl,rfl,hk,hLo,hb⟩:=hrel
    have hRr:=hR.below hb
    obtain ⟨ra,rc,c7⟩:=hRr.rules
    by_cases hlt:k < Q.length
    · have hq:Q[k]?=some (Q[k]'hlt):=List.getElem?_eq_getElem hlt
      generalize Q[k]'hlt=q at hq
      have hbs:=hb.size
      have hUr:UAt wr pu us wr.heap.size:=⟨fun i c hc=>by
        obtain ⟨g,off,h1,h2,h3⟩:=(hU.below hb).at' i c hc
        exact ⟨g,off,h1,by omega,h3⟩⟩
      have hMo:=most_any wr b T Q L B F I hRr HA.out hll hnl hrl k q hq hql us hul pu cu hUr
      go_wp2_with (go_at_call 119;refine hMo.mono ?_;rintro e w2 ⟨⟨m,rfl,hM⟩,hb2⟩;by_cases hnm:n < m)
      · go_roundw
        case rel=>exact ⟨k + 1,m,k,by go_num,rfl,rfl,by omega,hLo.more hq hM.le (hM.ok.resolve_left (by omega)) hM.top (by omega),hb.trans (hb2.mono hbs)⟩
        case measure=>simp [intOf];omega
      · go_roundw
        case rel=>exact ⟨k + 1,n,r,by go_num,rfl,rfl,by omega,hLo.less hq (fun m' a b=>hM.top m' (by omega) b),hb.trans (hb2.mono hbs)⟩
        case measure=>simp [intOf];omega
    · go_wp2
      go_ret2
      exact ⟨⟨n,r,rfl,by rw [show k=Q.length by omega] at hLo;exact hLo.all⟩,hb⟩
end Rf
end Go.Proofs.YtpgcidpghmoibaaGreatDoor

namespace Go.Proofs.YtpgcidpghmoibaaGreatDoor
open Go.RowKit
set_option maxRecDepth 100000 in
set_option maxHeartbeats 400000 in
theorem runits_long (s:ByteArray) (w:World) (h:1000 < s.size) (_hs:s.size≤maxLen) :
    Calls Tryz.prog 86 #[.string s] w fun e w'=>e=.returned (.tuple #[.slice none 0 0,.slice none 0 0,.int .i64 1])∧w'=w:=by
  go_enter Tryz.func86,Tryz.ntmps86
  go_wp2
  go_ret3
  exact ⟨rfl,rfl⟩
def Apart (u v:Value):Prop:=∀ k,u.ownBlock=some k→v.ownBlock=some k→False
theorem Apart.symm {u v:Value} (h:Apart u v):Apart v u:=fun k a b=>h k b a
theorem Apart.kept {u v:Value} (h:Apart u v):u.ownBlock=none ∨ u.ownBlock ≠ v.ownBlock:=by
  cases e:u.ownBlock with
  | none=>exact .inl rfl
  | some k=>exact .inr (fun e2=>h k e e2.symm)
theorem Apart.nil (v:Value):Apart (.slice none 0 0) v:=fun k h=>by simp [Value.ownBlock] at h
theorem Apart.grown {W:World} {o:Obj} {u u' v:Value} {b e n:Nat} {xs:List Value} (h:Apart u v) (hv:W.ownsRow b e 1 v n xs) (hat:u'.ownBlock=u.ownBlock ∨ u'.ownBlock=some (W.alloc o).heap.size):Apart u' v:=by
  intro k hk hk2
  rcases hat with hat | hat
  · exact h k (hat ▸ hk) hk2
  · rw [hat] at hk
    have:=(hv.lt k hk2).2
    simp at hk
    omega
set_option maxRecDepth 100000 in
set_option maxHeartbeats 1000000 in
theorem runits_short (s:ByteArray) (w:World) (h:s.size≤1000) :
    Calls Tryz.prog 86 #[.string s] w fun e w'=>∃ v1 v2,e=.returned (.tuple #[v1,v2,.int .i64 0]) ∧
      w'.ownsRow w.heap.size 3 1 v1 (U.units s).length (U.runes64 (U.units s))∧w'.ownsRow w.heap.size 3 1 v2 (U.units s).length (U.starts64 (U.units s))∧Below w.heap.size w w':=by
  obtain ⟨i0,hi,hz0,hz1,hz2⟩:=info_parts infoInt
  go_enter Tryz.func86,Tryz.ntmps86
  go_wp2
  go_loopw [5,6,7] (fun v1 v2 i wr=>∃ (pos:Nat) (l:List (Nat × Nat)),i=.int .i64 pos∧wr.ownsRow w.heap.size 3 1 v1 l.length (U.runes64 l)∧wr.ownsRow w.heap.size 3 1 v2 l.length (U.starts64 l)∧Apart v1 v2∧Below w.heap.size w wr∧U.Upto s pos l)
    (fun _ _ i _=>s.size - (intOf i).toNat)
  case atStart=>exact ⟨0,[],rfl,World.ownsRow_nil _ _ _ _,World.ownsRow_nil _ _ _ _,Apart.nil _,Below.refl _ _,U.Upto.zero s⟩
  case round =>
    obtain ⟨pos,l,rfl,ho1,ho2,hap,hbw,hup⟩:=hrel
    have hl:=hup.length
    have hle:=hup.1
    have HU:Hid (U.Upto s pos l):=hup
    clear hup
    by_cases hp:pos < s.size
    · have hwd:=U.width s pos hp
      have hsz:=hbw.size
      go_wp2_with (first
        | (go_at_call 118;refine (next_any s pos _ (by omega) hp).mono ?_;rintro e w' ⟨rfl,rfl⟩)
        | (at_builtin;refine wpList_append_own_at _ rfl (.tmp 25) (.tmp 27) 33 rfl w.heap.size 3 i0 (.int .i64 0) 1 8 Tryz.underlying33 hi hz0 hz1 hz2 rfl (by decide) _ _ _ rfl (ho1.alloc _) ⟨w'.heap.size,0,none⟩ 1 1 [.int .i64 ((Utf8.decode s pos).1:Int)] rfl rfl (cell_one_new _ _ _) (fun x hx=>by simp at hx;subst hx;rfl) (by unfold maxLen;omega) (by omega) (by simp;omega) ?_
           intro v1 w2 hn1 hg1 _ hat1
           have k2:w2.ownsRow w.heap.size 3 1 u6 l.length (U.starts64 l):=(ho2.alloc _).kept hg1 hap.symm.kept
           have ap2:Apart v1 u6:=hap.grown ho2 hat1
           have hb2:Below w.heap.size w w2:=Below.grown (hbw.alloc (by omega) _) hg1 (by simp;omega) (fun k hk=>(ho1.lt k hk).1)
           have hs2:=hb2.size
           have X1:Hid (w2.ownsRow w.heap.size 3 1 v1 (l.length + 1) (U.runes64 l ++ [.int .i64 ((Utf8.decode s pos).1:Int)])∧Apart v1 u6∧Below w.heap.size w w2):=⟨hn1,ap2,hb2⟩
           clear hn1 hg1 hat1 ap2 hb2 ho1 ho2 hap hbw)
        | (at_builtin;refine wpList_append_own_at _ rfl (.tmp 29) (.tmp 31) 33 rfl w.heap.size 3 i0 (.int .i64 0) 1 8 Tryz.underlying33 hi hz0 hz1 hz2 rfl (by decide) _ _ _ rfl (k2.alloc _) ⟨w2.heap.size,0,none⟩ 1 1 [.int .i64 (pos:Int)] rfl rfl (cell_one_new _ _ _) (fun x hx=>by simp at hx;subst hx;rfl) (by unfold maxLen;omega) (by omega) (by simp;omega) ?_
           intro v2 w3 hn2 hg2 _ hat2
           have k1:=(X1.out.1.alloc (.cells #[.int .i64 (pos:Int)] 3)).kept hg2 X1.out.2.1.kept
           have ap3:Apart v1 v2:=(X1.out.2.1.symm.grown X1.out.1 hat2).symm
           have hb3:Below w.heap.size w w3:=Below.grown (X1.out.2.2.alloc (by omega) _) hg2 (by simp;omega) (fun k hk=>(k2.lt k hk).1)
           have X2:Hid (w3.ownsRow w.heap.size 3 1 v1 (l.length + 1) (U.runes64 l ++ [.int .i64 ((Utf8.decode s pos).1:Int)])∧w3.ownsRow w.heap.size 3 1 v2 (l.length + 1) (U.starts64 l ++ [.int .i64 (pos:Int)])∧Apart v1 v2∧Below w.heap.size w w3):=⟨k1,hn2,ap3,hb3⟩
           clear hn2 hg2 hat2 k1 k2 ap3 hb3 X1))
      go_roundw
      case rel =>
        refine ⟨pos + (Utf8.decode s pos).2,l ++ [((Utf8.decode s pos).1,pos)],by go_num,?_,?_,X2.out.2.2.1,X2.out.2.2.2,HU.out.step hp⟩
        · rw [runes64_snoc,List.length_append];exact X2.out.1
        · rw [starts64_snoc,List.length_append];exact X2.out.2.1
      case measure=>simp [intOf];omega
    · have E:=HU.out.done (by omega)
      subst E
      clear hl
      go_wp2
      go_ret3
      exact ⟨_,_,rfl,ho1,ho2,hbw⟩
end Go.Proofs.YtpgcidpghmoibaaGreatDoor
