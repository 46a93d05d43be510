/-
  THE WALK of keepSegments
  THE REFERENCE's RULES, asked
  THE WALK of keepInts
-/
import Derived.Test.YtpgcidpghmoibaaGreatDoorK24
import Derived.Test.YtpgcidpghmoibaaGreatDoorK04
namespace Go.Proofs.YtpgcidpghmoibaaGreatDoor
open Go.RowKit
theorem infoSl:(Tryz.prog.info? 60).map (fun i=>(i.zero,i.size,i.bytes))=some (some (.slice none 0 0),1,24):=by kernel_rfl
theorem infoSgs:(Tryz.prog.info? 65).map (fun i=>(i.zero,i.size,i.bytes))=some (some (.agg #[.int .i64 0,.int .i64 0,.int .i64 0]),3,24):=by kernel_rfl
theorem set_full3 (xs:List Value) (m:Int) (k:Nat) (h:(k + 1) * 3≤xs.length):(((full 2 k m ++ xs.drop (k * 3)).set (k * 3) (.int .i64 m)).set (k * 3 + 1) (.int .i64 0)).set (k * 3 + 2) (.int .i64 0)=full 2 (k + 1) m ++ xs.drop ((k + 1) * 3):=by
  have hl:(full 2 k m).length=k * 3:=full_len 2 k m
  have e:xs.drop (k * 3)=xs[k * 3]'(by omega) :: xs[k * 3 + 1]'(by omega) :: xs[k * 3 + 2]'(by omega) :: xs.drop ((k + 1) * 3):=by
    rw [List.drop_eq_getElem_cons (by omega),List.drop_eq_getElem_cons (i:=k * 3 + 1) (by omega),List.drop_eq_getElem_cons (i:=k * 3 + 1 + 1) (by omega)]
    congr 4
    omega
  rw [e,List.set_append_right _ _ (by omega),hl,Nat.sub_self,List.set_cons_zero,List.set_append_right _ _ (by omega),hl,show k * 3 + 1 - k * 3=1 by omega,List.set_cons_succ,List.set_cons_zero,List.set_append_right _ _ (by omega),hl,show k * 3 + 2 - k * 3=2 by omega,List.set_cons_succ,List.set_cons_succ,List.set_cons_zero,full_snoc,List.append_assoc]
  rfl
set_option maxRecDepth 100000 in
set_option maxHeartbeats 1000000 in
theorem keepSegs_any (w:World) (b:Nat) (S:Nat→Prop) (c n:Nat) (l:Value) (xs:List Value) (hB:Book w b S c) (hc:c≤100000000) (hl:w.ownsRow 0 65 3 l n xs) (hn:n≤1000000000) (hlS:∀ k,l.ownBlock=some k→¬ S k) :
    Calls Tryz.prog 59 #[.pointer (some ⟨b,0,none⟩),l] w fun e w'=>e=.returned (.tuple #[])∧Book w' b (fun k=>S k ∨ l.ownBlock=some k ∨ w.heap.size≤k) (c + 1)∧Kept (fun k=>¬ S k∧l.ownBlock ≠ some k) w w':=by
  obtain ⟨i0,hi,hz0,hz1,hz2⟩:=info_parts infoInt
  obtain ⟨j0,hj0,hy0,hy1,hy2⟩:=info_parts infoSgs
  obtain ⟨i1,hi1,hq0,hq1,hq2⟩:=info_parts infoSl
  obtain ⟨rL,rM,L,M,BA,hlen,hmk,hin⟩:=hB
  obtain ⟨a,cp,hla⟩:=own_len' hl
  subst hla
  have cb0:=cell_blk BA.blk 0 (.int .i64 (c:Int)) rfl
  have fb0:=free_blk BA.blk 0
  go_enter Tryz.func59,Tryz.ntmps59
  go_wp2
  have hn1:xs.length=n * 3:=hl.1
  have hS:∀ k,InBook b rL rM L k→(Value.slice a n cp).ownBlock ≠ some k:=fun k hk e=>hlS k e (hin k hk)
  have hlb:(Value.slice a n cp).ownBlock ≠ some b:=hS b (.inl rfl)
  go_loopw [4] (fun i wr=>∃ k:Nat,k≤n∧i=.int .i64 k∧BookAt wr b ((c:Int) + 1) rL rM L M∧wr.ownsRow 0 65 3 (.slice a n cp) n (full 2 k (-((c:Int) + 1)) ++ xs.drop (k * 3))∧Kept (fun j=>¬ S j∧(Value.slice a n cp).ownBlock ≠ some j) w wr)
    (fun i _=>n - (intOf i).toNat)
  case atStart=>exact ⟨0,Nat.zero_le _,rfl,BA.mark _,by rw [show full 2 0 (-((c:Int) + 1)) ++ xs.drop (0 * 3)=xs by simp [full]];exact own_same hl (fun k e=>Below.heap_setCell _ _ _ _ (fun (e2:k=b)=>hlb (e2 ▸ e))),(Kept.refl _ _).setCell (fun h=>h.1 (hin b (.inl rfl))) _⟩
  case round =>
    obtain ⟨k,hk,rfl,BR,hown,hkp⟩:=hrel
    have cr0:=cell_blk BR.blk 0 (.int .i64 ((c:Int) + 1)) rfl
    clear cb0 fb0
    by_cases hlt:k < n
    · obtain ⟨g,cap,hv,_,_⟩:=hown.form (by omega)
      simp only [Value.slice.injEq] at hv
      obtain ⟨rfl,_,rfl⟩:=hv
      have cgg:∀ o,o < 3→∃ u,wr.cell? ⟨g,k * 3 + o,none⟩=some u:=fun o ho=>by
        have:(wr.cell? ⟨g,k * 3 + o,none⟩).isSome=true:=by rw [hown.cellAt (k * 3 + o) (by omega)];simp [full_len,elS];omega
        exact Option.isSome_iff_exists.1 this
      obtain ⟨u0,cg0⟩:=cgg 0 (by omega)
      obtain ⟨u1,cg1⟩:=cgg 1 (by omega)
      obtain ⟨u2,cg2⟩:=cgg 2 (by omega)
      rw [Nat.add_zero] at cg0
      have fg:=fun o=>hown.frozenAt o
      have hst:=((((hown.stored (k * 3) (.int .i64 (-((c:Int) + 1)))).1.stored (k * 3 + 1) (.int .i64 0)).1).stored (k * 3 + 2) (.int .i64 0)).1
      rw [set_full3 xs _ k (by omega)] at hst
      have hgs:∀ j,InBook b rL rM L j→j ≠ g:=fun j hj e2=>hS j hj (by rw [e2];rfl)
      have BR2:BookAt (((wr.setCell ⟨g,k * 3,none⟩ (.int .i64 (-((c:Int) + 1)))).setCell ⟨g,k * 3 + 1,none⟩ (.int .i64 0)).setCell ⟨g,k * 3 + 2,none⟩ (.int .i64 0)) b ((c:Int) + 1) rL rM L M:=BR.same (by simp [World.setCell]) (fun j hj=>(Below.heap_setCell _ _ _ _ (hgs j hj)).trans ((Below.heap_setCell _ _ _ _ (hgs j hj)).trans (Below.heap_setCell _ _ _ _ (hgs j hj))))
      have hkp2:=((hkp.setCell (q:=⟨g,k * 3,none⟩) (fun h=>h.2 rfl) (.int .i64 (-((c:Int) + 1)))).setCell (q:=⟨g,k * 3 + 1,none⟩) (fun h=>h.2 rfl) (.int .i64 0)).setCell (q:=⟨g,k * 3 + 2,none⟩) (fun h=>h.2 rfl) (.int .i64 0)
      have HX:Hid _:=And.intro BR2 (And.intro hst hkp2)
      clear BR2 hst hkp2
      go_wp2
      go_roundw
      case rel=>exact ⟨k + 1,by omega,by go_num,HX.out.1,HX.out.2.1,HX.out.2.2⟩
      case measure=>simp [intOf];omega
    · obtain rfl:k=n:=by omega
      have hown':wr.ownsRow 0 65 3 (.slice a k cp) k (full 2 k (-((c:Int) + 1))):=by simpa [List.drop_of_length_le (Nat.le_of_eq hn1)] using hown
      have K0:KS w wr b S c 2 (.slice a k cp) k 0 0 (.slice a k cp) rL rM L M:=
        ⟨BR,⟨hown',hlb,fun i=>⟨fun g e e2=>hS g (.inr (.inl ⟨i,e2⟩)) e,fun g e e2=>hS g (.inr (.inr (.inl ⟨i,e2⟩))) e⟩,
          fun t i l' m' hl' _ g e e2=>absurd e (hS g (.inr (.inr (.inr ⟨t,l',List.mem_of_getElem? hl',e2⟩))))⟩,
          fun t _=>(hlen t).1,(hlen 2).1,fun t=>by have:=hlen t;omega,(fun e=>by cases e),fun t m hm=>by have:=hmk t m hm;omega,fun i hi=>.inl (hin i hi),fun i e=>.inl e,hkp⟩
      have hSb:S b:=hin b (.inl rfl)
      have HK0:Hid _:=K0
      clear K0 BR hown hown' hkp cr0 hlen hmk hin BA hl hn1 hS hlb hlS
      go_wp2
      go_loopw [1,5] (fun lv i wr=>∃ (j:Nat) (rL rM:Fin 3→Value) (L:Fin 3→List Value) (M:Fin 3→List Int),j≤4∧i=.int .i64 j∧KS w wr b S c 2 (.slice a k cp) (k + j) j 0 lv rL rM L M) (fun _ i _=>4 - (intOf i).toNat)
      case atStart=>exact ⟨0,rL,rM,L,M,by omega,rfl,HK0.out⟩
      case round =>
        clear HK0
        obtain ⟨j,rL,rM,L,M,hj,rfl,KA⟩:=hrel
        by_cases hj4:j < 4
        · obtain ⟨la,lc,hlv⟩:=own_len' KA.cu.own
          subst hlv
          have cb1:=cell_blk KA.ba.blk 5 (rL 2) rfl
          have fb1:=free_blk KA.ba.blk 5
          have bd0:=KA.bd 2
          have l0:=KA.l0
          have hbl:=lt_of_block KA.ba.blk
          have nb0:=KA.ba.nbL 2
          have oL:wr.ownsRow 0 60 1 (rL 2) (L 2).length (L 2):=KA.ba.oL 2
          have bl0:(L 2).length≤4 * c + j:=by omega
          have HKA:Hid _:=KA
          clear KA l0 bd0
          go_wp2_with
           (at_builtin
            refine wpList_append_lies _ rfl (.tmp 37) (.tmp 39) 42 rfl 0 60 i1 (.slice none 0 0) 1 24 Tryz.underlying42 hi1 hq0 hq1 hq2 rfl (by decide) _ _ _ rfl (oL.alloc _) ⟨wr.heap.size,0,none⟩ 1 1 [.slice la (k + j) lc] rfl rfl (cell_one_new _ _ _) (fun x hx=>by simp at hx;subst hx;rfl) (by decide) (by unfold maxLen;omega) (by omega) (by simp) (wr.heap.size + 1) (by simp) ?_
            intro g1 cap1 w2 hn1 hg1 hat1 hlt1
            have hb2:w2.heap[b]?=_:=(hg1.block b (by simp;omega) (fun e=>nb0 e.symm)).trans ((Below.heap_alloc _ _ _ hbl).trans HKA.out.ba.blk)
            have cb1':=cell_blk hb2 5 (rL 2) rfl
            have fb1':=free_blk hb2 5
            clear hb2 cb1 fb1)
          obtain ⟨rL1,L1,KB⟩:∃ rL1 L1,KS w (w2.setCell ⟨b,5,none⟩ (.slice (some ⟨g1,0,none⟩) ((L 2).length + 1) cap1)) b S c 2 (.slice a k cp) (k + j) j 1 (.slice la (k + j) lc) rL1 rM L1 M:=
            ⟨_,_,HKA.out.A hSb ((Kept.refl _ _).alloc _) hg1 hn1 (lies_of hat1 (by omega))⟩
          clear cb1' fb1' hn1 hg1 hat1 hlt1 HKA oL bl0 nb0 hbl
          generalize w2.setCell ⟨b,5,none⟩ (.slice (some ⟨g1,0,none⟩) ((L 2).length + 1) cap1)=w3 at KB ⊢
          have cb0:=cell_blk KB.ba.blk 0 (.int .i64 ((c:Int) + 1)) rfl
          have cb2:=cell_blk KB.ba.blk 6 (rM 2) rfl
          have fb2:=free_blk KB.ba.blk 6
          have bd0:=KB.bd 2
          have hbl:=lt_of_block KB.ba.blk
          have nb0:=KB.ba.nbM 2
          have oM:w3.ownsRow 0 3 1 (rM 2) (M 2).length ((M 2).map (Value.int .i64)):=KB.ba.oM 2
          have HKB:Hid _:=KB
          clear KB
          obtain ⟨mk,hm,hm1,hm2⟩:∃ mk:Int,(c:Int) + 1=mk∧1≤mk∧mk≤100000001:=⟨_,rfl,by omega,by omega⟩
          have hwr:IntKind.i64.wrap (-mk)=-mk:=wrap_neg mk hm1 hm2
          rw [hm] at cb0 ⊢
          have HM:Hid ((c:Int) + 1=mk):=hm
          clear hm
          go_region_law
            ((refine step_append_lies _ (by rfl) _ _ _ (by rfl) 0 3 i0 _ 1 8 Tryz.underlying33 hi hz0 hz1 hz2 rfl (by omega) (rM 2) (M 2).length ((M 2).map (Value.int .i64)) (by rfl) ((oM.alloc _).drew)
                ⟨w3.heap.size,0,none⟩ 1 1 [.int .i64 (-mk)] (by rfl) (by rfl) (World.news_of_block (cs:=#[.int .i64 (-mk)]) (t:=3) (fr:=(0,0)) (heap_alloc_new w3 _)) (by simp [Value.oneCell'])
                (by omega) (by unfold maxLen;omega) (by omega) (by simp) (w3.heap.size + 1) (by simp) ?_;intro g2 cap2 w4 hn2 hg2 hat2 hlt2;have hb4:w4.heap[b]?=_:=(hg2.block b (by simp;omega) (fun e=>nb0 e.symm)).trans ((Below.heap_alloc _ _ _ hbl).trans HKB.out.ba.blk);have fb2':=free_blk hb4 6;have cb2':=cell_blk hb4 6 (rM 2) rfl;clear hb4))
          all_goals
            obtain ⟨rM1,M1,KC⟩:∃ rM1 M1,KS w (w4.setCell ⟨b,6,none⟩ (.slice (some ⟨g2,0,none⟩) ((M 2).length + 1) cap2)) b S c 2 (.slice a k cp) (k + j) (j + 1) 0 (.slice la (k + j) lc) rL1 rM1 L1 M1:=
              ⟨_,_,HKB.out.B hSb (((Kept.refl _ _).alloc _).drew) hg2 (by rw [HM.out];exact hn2) (lies_of hat2 (by omega))⟩
            clear cb2' fb2' hn2 hg2 hat2 hlt2 HKB oM nb0 hbl cb0 cb2 fb2 bd0 hwr
            generalize w4.setCell ⟨b,6,none⟩ (.slice (some ⟨g2,0,none⟩) ((M 2).length + 1) cap2)=w5 at KC ⊢
            have cb0:w5.cell? ⟨b,0,none⟩=some (.int .i64 mk):=by rw [← HM.out];exact cell_blk KC.ba.blk 0 (.int .i64 ((c:Int) + 1)) rfl
            have own5:w5.ownsRow 0 65 3 (.slice la (k + j) lc) (k + j) (full 2 (k + j) (-mk)):=by rw [← HM.out];exact KC.cu.own
            have HKC:Hid _:=KC
            clear KC
            go_wp2_with
             (at_builtin
              refine wpList_append_split _ rfl (.tmp 57) (.tmp 64) 60 rfl 0 65 j0 (.agg #[.int .i64 0,.int .i64 0,.int .i64 0]) 3 24 Tryz.underlying60 hj0 hy0 hy1 hy2 rfl (by decide) _ _ _ rfl (own5.alloc _) ⟨w5.heap.size,0,none⟩ 1 1 [.int .i64 (-mk),.int .i64 0,.int .i64 0] rfl rfl (World.news_of_block (cs:=#[.int .i64 (-mk),.int .i64 0,.int .i64 0]) (t:=65) (fr:=(0,0)) (heap_alloc_new _ _)) (fun x hx=>by simp at hx;rcases hx with rfl | rfl <;> rfl) (by decide) (by unfold maxLen;omega) (by omega) (by simp) ?_
              intro v3 w6 hn3 hg3 hs3
              have KD:KS w w6 b S c 2 (.slice a k cp) (k + j + 1) (j + 1) 0 v3 rL1 rM1 L1 M1:=HKC.out.C ((Kept.refl _ _).alloc _) hg3 (by rw [HM.out];exact hn3) hs3
              have HKD:Hid _:=KD
              clear KD hn3 hg3 hs3 own5 HKC cb0)
            have hm:=HM.out
            subst hm
            go_roundw
            case rel=>exact ⟨j + 1,rL1,rM1,L1,M1,by omega,by go_num,HKD.out⟩
            case measure=>simp [intOf];omega
        · obtain rfl:j=4:=by omega
          go_wp2
          go_end0
          refine ⟨rfl,⟨rL,rM,L,M,KA.ba,fun t=>?_,fun t m hm=>?_,KA.foot⟩,KA.kept⟩
          · have h1:=KA.bd t
            by_cases e:t=2
            · subst e
              have:=KA.l0
              omega
            · have:=KA.lo t e
              omega
          · have:=KA.mks t m hm
            omega
end Go.Proofs.YtpgcidpghmoibaaGreatDoor

namespace Go.Proofs.YtpgcidpghmoibaaGreatDoor
namespace Rf
open Go.RowKit
open G (PNode)
def TellsAt (b:Nat) (T:List PNode) (Q:List Nat) (a c:Int) (n:Nat):Prop:=
  ∀ (w:World) (cs:Array Value) (vN vR:Value) (V:List (Value × Value)),RoAt w b T Q cs vN vR V →
    Calls Tryz.prog 56 #[.pointer (some ⟨b,0,none⟩),.int .i64 (n:Int),.int .i64 a,.int .i64 c] w fun e w'=>e=.returned (.bool (G.tellB T a c n))∧Below w.heap.size w w'
set_option maxRecDepth 100000 in
set_option maxHeartbeats 2000000 in
theorem tells_at (b:Nat) (T:List PNode) (Q:List Nat) (a c:Int) (hT:G.WF T) (htl:T.length≤100000) (hpl:∀ x ∈ T,x.parts.length≤100000∧x.ranges.length≤100000) (n:Nat) (hn:n < T.length) (hIH:∀ m,m < n→TellsAt b T Q a c m):TellsAt b T Q a c n:=by
  intro w cs vN vR V h
  have c5:=cell_blk h.blk 5 _ h.c5
  have hxT:T[n]?=some (T[n]'hn):=List.getElem?_eq_getElem hn
  generalize T[n]'hn=x at hxT
  have hxp:=hpl x (List.mem_of_getElem? hxT)
  obtain ⟨⟨rv,pv⟩,hu⟩:∃ u,V[n]?=some u:=⟨V[n]'(by rw [h.len];exact hn),List.getElem?_eq_getElem _⟩
  obtain ⟨oR,oP⟩:=h.oV n x (rv,pv) hxT hu
  obtain ⟨ra,rc,hre⟩:=own_len oR
  obtain ⟨pa,pc,hpe⟩:=own_len oP
  simp only at hre hpe
  subst hre hpe
  obtain ⟨g,cap,hv,_,_⟩:=h.oN.form (by omega)
  subst hv
  have hgl:g < w.heap.size:=(h.oN.lt g rfl).2
  have hbl:=lt_of_block h.blk
  have d0:w.cell? ⟨g,n * 5,none⟩=some (.int .u8 (x.kind:Int)):=own_cell' h.oN (n * 5 + 0) ((ncells_get hxT hu 0 (by omega)).trans rfl)
  have d1:w.cell? ⟨g,n * 5 + 1,none⟩=some (.slice ra x.ranges.length rc):=own_cell' h.oN (n * 5 + 1) ((ncells_get hxT hu 1 (by omega)).trans rfl)
  have d2:w.cell? ⟨g,n * 5 + 2,none⟩=some (.bool x.other):=own_cell' h.oN (n * 5 + 2) ((ncells_get hxT hu 2 (by omega)).trans rfl)
  have d3:w.cell? ⟨g,n * 5 + 3,none⟩=some (.slice pa x.parts.length pc):=own_cell' h.oN (n * 5 + 3) ((ncells_get hxT hu 3 (by omega)).trans rfl)
  have d4:w.cell? ⟨g,n * 5 + 4,none⟩=some (.int .i64 (x.size:Int)):=own_cell' h.oN (n * 5 + 4) ((ncells_get hxT hu 4 (by omega)).trans rfl)
  have hst:=G.tellB_step hT a c hxT
  have hBb:(w.alloc (.cells #[.int .u8 (x.kind:Int),.slice ra x.ranges.length rc,.bool x.other,.slice pa x.parts.length pc,.int .i64 (x.size:Int)] 118)).heap[w.heap.size]?=_:=heap_alloc_new w _
  by_cases hk:x.kind=115
  · rw [if_pos hk] at hst
    have HT:Hid _:=hst
    clear hst
    have hkb:((x.kind:Int) == 115)=true:=by simp;omega
    clear hk
    have HBb:Hid _:=hBb
    clear hBb
    go_enter Tryz.func56,Tryz.ntmps56
    go_wp2_with (first
      | (go_at_call 85;refine hN2.mono ?_;rintro e w2 ⟨rfl,hb2⟩)
      | (go_at_call 85;refine (in_any _ x x.kind (x.size:Int) ra pa rc x.parts.length pc a (oR.alloc _) hxp.2).mono ?_;rintro e w1 ⟨rfl,hb1⟩;have hbb:w1.heap[w.heap.size]?=_:=(hb1.block w.heap.size (by simp)).trans HBb.out;have e0:=cell_blk hbb 0 (.int .u8 (x.kind:Int)) rfl;have e1:=cell_blk hbb 1 (.slice ra x.ranges.length rc) rfl;have e2:=cell_blk hbb 2 (.bool x.other) rfl;have e3:=cell_blk hbb 3 (.slice pa x.parts.length pc) rfl;have e4:=cell_blk hbb 4 (.int .i64 (x.size:Int)) rfl;have hN2:=in_any w1 x x.kind (x.size:Int) ra pa rc x.parts.length pc c (own_same oR (fun k e=>(hb1.block k (by have:=(oR.lt k e).2;simp;omega)).trans (Below.heap_alloc _ _ _ (oR.lt k e).2))) hxp.2;clear hbb))
    go_ret
    refine ⟨ret_bool HT.out.symm,?_⟩
    exact (((Below.refl _ _).alloc (Nat.le_refl _) _).trans (hb1.mono (by simp))).trans (hb2.mono (by have:=hb1.size;simp at this;omega))
  · rw [if_neg hk] at hst
    have HT:Hid _:=hst
    clear hst
    have hkb:((x.kind:Int) == 115)=false:=by simp;omega
    clear hk
    have hpn:=(hT n x hxT).parts
    have HW0:Hid _:=hBb
    have hbe:Below w.heap.size w (w.alloc (.cells #[.int .u8 (x.kind:Int),.slice ra x.ranges.length rc,.bool x.other,.slice pa x.parts.length pc,.int .i64 (x.size:Int)] 118)):=(Below.refl _ _).alloc (Nat.le_refl _) _
    have HBe:Hid _:=hbe
    clear hBb hbe
    go_enter Tryz.func56,Tryz.ntmps56
    go_wp2
    go_loopw [12] (fun i wr=>∃ j:Nat,j≤x.parts.length∧i=.int .i64 j∧(x.parts.take j).any (G.tellB T a c)=false∧wr.heap[w.heap.size]?=some (.cells #[.int .u8 (x.kind:Int),.slice ra x.ranges.length rc,.bool x.other,.slice pa x.parts.length pc,.int .i64 (x.size:Int)] 118 (0,0))∧Below w.heap.size w wr) (fun i _=>x.parts.length - (intOf i).toNat)
    case atStart=>exact ⟨0,by omega,rfl,rfl,HW0.out,HBe.out⟩
    case round =>
      obtain ⟨j,hj,rfl,hall,hbox,hbw⟩:=hrel
      have HA:Hid ((x.parts.take j).any (G.tellB T a c)=false):=hall
      clear hall
      have cb3:=cell_blk hbox 3 (.slice pa x.parts.length pc) rfl
      have hRo:=h.below hbw
      have hlb:=lt_of_block hbox
      by_cases hlt:j < x.parts.length
      · have hpj:x.parts[j]?=some (x.parts[j]'hlt):=List.getElem?_eq_getElem hlt
        generalize x.parts[j]'hlt=p at hpj
        have hpp:=hpn p (List.mem_of_getElem? hpj)
        have oP':=own_same oP (fun k e=>hbw.block k (oP.lt k e).2)
        obtain ⟨gp,capp,hvp,_,_⟩:=oP'.form (by omega)
        simp only [Value.slice.injEq] at hvp
        obtain ⟨rfl,_,rfl⟩:=hvp
        have cp:wr.cell? ⟨gp,j,none⟩=some (.int .i64 (p:Int)):=own_cell' oP' j (by simp [ints,hpj])
        have hat:=any_take (G.tellB T a c) x.parts j p hpj
        have HAT:Hid _:=hat
        clear hat
        have hN:=hIH p hpp wr cs _ vR V hRo
        have hpb:p≤100000:=by omega
        cases htb:G.tellB T a c p with
        | true =>
          rw [htb] at hN
          have HM:Hid (x.parts.any (G.tellB T a c)=true):=List.any_eq_true.2 ⟨p,List.mem_of_getElem? hpj,htb⟩
          clear htb
          go_wp2_with (go_at_call 56;refine hN.mono ?_;rintro e w2 ⟨rfl,hb2⟩)
          go_ret
          exact ⟨ret_bool (HT.out.trans HM.out).symm,hbw.trans (hb2.mono (by have:=hbw.size;omega))⟩
        | false =>
          rw [htb] at hN
          have HTB:Hid _:=htb
          clear htb
          go_wp2_with (go_at_call 56;refine hN.mono ?_;rintro e w2 ⟨rfl,hb2⟩)
          go_roundw
          case rel=>exact ⟨j + 1,by omega,by go_num,by rw [HAT.out,HA.out,HTB.out];rfl,(hb2.block w.heap.size hlb).trans hbox,hbw.trans (hb2.mono (by have:=hbw.size;omega))⟩
          case measure=>simp [intOf];omega
      · have e:j=x.parts.length:=by omega
        have HM:Hid (x.parts.any (G.tellB T a c)=false):=by have:=HA.out;rwa [e,List.take_length] at this
        clear HA e
        go_wp2
        go_ret
        exact ⟨ret_bool (HT.out.trans HM.out).symm,hbw⟩
theorem tells_any (b:Nat) (T:List PNode) (Q:List Nat) (a c:Int) (hT:G.WF T) (htl:T.length≤100000) (hpl:∀ x ∈ T,x.parts.length≤100000∧x.ranges.length≤100000):∀ n,n < T.length→TellsAt b T Q a c n:=by
  intro n
  induction n using Nat.strongRecOn with
  | ind n ih =>
    intro hn
    exact tells_at b T Q a c hT htl hpl n hn (fun m hm=>ih m hm (by omega))
set_option maxRecDepth 100000 in
set_option maxHeartbeats 2000000 in
theorem same_any (w:World) (b:Nat) (T:List PNode) (Q:List Nat) (a c:Int) (cs:Array Value) (vN vR:Value) (V:List (Value × Value)) (h:RoAt w b T Q cs vN vR V) (hT:G.WF T) (htl:T.length≤100000) (hpl:∀ x ∈ T,x.parts.length≤100000∧x.ranges.length≤100000) (hQ:∀ q ∈ Q,q < T.length) (hql:Q.length≤100000) :
    Calls Tryz.prog 19 #[.pointer (some ⟨b,0,none⟩),.int .i64 a,.int .i64 c] w fun e w'=>e=.returned (.bool (!(Q.any (G.tellB T a c))))∧Below w.heap.size w w':=by
  obtain ⟨ra,rc,hre⟩:=own_len h.oR
  subst hre
  go_enter Tryz.func19,Tryz.ntmps19
  go_wp2
  go_loopw [7] (fun i wr=>∃ j:Nat,j≤Q.length∧i=.int .i64 j∧(Q.take j).any (G.tellB T a c)=false∧Below w.heap.size w wr) (fun i _=>Q.length - (intOf i).toNat)
  case atStart=>exact ⟨0,by omega,rfl,rfl,Below.refl _ _⟩
  case round =>
    obtain ⟨j,hj,rfl,hall,hbw⟩:=hrel
    have HA:Hid ((Q.take j).any (G.tellB T a c)=false):=hall
    clear hall
    have hRo:=h.below hbw
    have c7:=cell_blk hRo.blk 7 _ hRo.c7
    by_cases hlt:j < Q.length
    · have hqj:Q[j]?=some (Q[j]'hlt):=List.getElem?_eq_getElem hlt
      generalize Q[j]'hlt=q at hqj
      have hqT:=hQ q (List.mem_of_getElem? hqj)
      obtain ⟨gr,capr,hvr,_,_⟩:=hRo.oR.form (by omega)
      simp only [Value.slice.injEq] at hvr
      obtain ⟨rfl,_,rfl⟩:=hvr
      have cq:wr.cell? ⟨gr,j,none⟩=some (.int .i64 (q:Int)):=own_cell' hRo.oR j (by simp [ints,hqj])
      have hat:=any_take (G.tellB T a c) Q j q hqj
      have HAT:Hid _:=hat
      clear hat
      have hN:=tells_any b T Q a c hT htl hpl q hqT wr cs _ _ V hRo
      cases htb:G.tellB T a c q with
      | true =>
        rw [htb] at hN
        have HM:Hid (Q.any (G.tellB T a c)=true):=List.any_eq_true.2 ⟨q,List.mem_of_getElem? hqj,htb⟩
        clear htb
        go_wp2_with (go_at_call 56;refine hN.mono ?_;rintro e w2 ⟨rfl,hb2⟩)
        go_ret
        exact ⟨ret_bool (by rw [HM.out];rfl),hbw.trans (hb2.mono (by have:=hbw.size;omega))⟩
      | false =>
        rw [htb] at hN
        have HTB:Hid _:=htb
        clear htb
        go_wp2_with (go_at_call 56;refine hN.mono ?_;rintro e w2 ⟨rfl,hb2⟩)
        go_roundw
        case rel=>exact ⟨j + 1,by omega,by go_num,by rw [HAT.out,HA.out,HTB.out];rfl,hbw.trans (hb2.mono (by have:=hbw.size;omega))⟩
        case measure=>simp [intOf];omega
    · have e:j=Q.length:=by omega
      have HM:Hid (Q.any (G.tellB T a c)=false):=by have:=HA.out;rwa [e,List.take_length] at this
      clear HA e
      go_wp2
      go_ret
      exact ⟨ret_bool (by rw [HM.out];rfl),hbw⟩
end Rf
end Go.Proofs.YtpgcidpghmoibaaGreatDoor

namespace Go.Proofs.YtpgcidpghmoibaaGreatDoor
open Go.RowKit
theorem full0 (n:Nat) (m:Int):full 0 n m=List.replicate n (.int .i64 m):=by
  induction n with
  | zero=>rfl
  | succ n ih=>rw [full_snoc,ih,List.replicate_succ'];rfl
set_option maxRecDepth 100000 in
set_option maxHeartbeats 1000000 in
theorem keepInts_any (w:World) (b:Nat) (S:Nat→Prop) (c n:Nat) (l:Value) (xs:List Value) (hB:Book w b S c) (hc:c≤100000000) (hl:w.ownsRow 0 3 1 l n xs) (hn:n≤1000000000) (hlS:∀ k,l.ownBlock=some k→¬ S k) :
    Calls Tryz.prog 96 #[.pointer (some ⟨b,0,none⟩),l] w fun e w'=>e=.returned (.tuple #[])∧Book w' b (fun k=>S k ∨ l.ownBlock=some k ∨ w.heap.size≤k) (c + 1)∧Kept (fun k=>¬ S k∧l.ownBlock ≠ some k) w w':=by
  obtain ⟨i0,hi,hz0,hz1,hz2⟩:=info_parts infoInt
  obtain ⟨i1,hi1,hq0,hq1,hq2⟩:=info_parts infoIl
  obtain ⟨rL,rM,L,M,BA,hlen,hmk,hin⟩:=hB
  obtain ⟨a,cp,hla⟩:=own_len' hl
  subst hla
  have cb0:=cell_blk BA.blk 0 (.int .i64 (c:Int)) rfl
  have fb0:=free_blk BA.blk 0
  go_enter Tryz.func96,Tryz.ntmps96
  go_wp2
  have hn1:xs.length=n:=by have:=hl.1;omega
  have hS:∀ k,InBook b rL rM L k→(Value.slice a n cp).ownBlock ≠ some k:=fun k hk e=>hlS k e (hin k hk)
  have hlb:(Value.slice a n cp).ownBlock ≠ some b:=hS b (.inl rfl)
  go_loopw [4] (fun i wr=>∃ k:Nat,k≤n∧i=.int .i64 k∧BookAt wr b ((c:Int) + 1) rL rM L M∧wr.ownsRow 0 3 1 (.slice a n cp) n (List.replicate k (.int .i64 (-((c:Int) + 1))) ++ xs.drop k)∧Kept (fun j=>¬ S j∧(Value.slice a n cp).ownBlock ≠ some j) w wr)
    (fun i _=>n - (intOf i).toNat)
  case atStart=>exact ⟨0,Nat.zero_le _,rfl,BA.mark _,by simpa using own_same hl (fun k e=>Below.heap_setCell _ _ _ _ (fun (e2:k=b)=>hlb (e2 ▸ e))),(Kept.refl _ _).setCell (fun h=>h.1 (hin b (.inl rfl))) _⟩
  case round =>
    obtain ⟨k,hk,rfl,BR,hown,hkp⟩:=hrel
    have cr0:=cell_blk BR.blk 0 (.int .i64 ((c:Int) + 1)) rfl
    clear cb0 fb0
    by_cases hlt:k < n
    · obtain ⟨g,cap,hv,_,_⟩:=hown.form (by omega)
      simp only [Value.slice.injEq] at hv
      obtain ⟨rfl,_,rfl⟩:=hv
      have cg:(wr.cell? ⟨g,k,none⟩).isSome=true:=by rw [hown.cellAt k (by omega)];simp;omega
      obtain ⟨u0,cg⟩:=Option.isSome_iff_exists.1 cg
      have fg:=hown.frozenAt k
      have hst:=hown.stored k (.int .i64 (-((c:Int) + 1)))
      have BR2:BookAt (wr.setCell ⟨g,k,none⟩ (.int .i64 (-((c:Int) + 1)))) b ((c:Int) + 1) rL rM L M:=BR.same (by simp [World.setCell]) (fun j hj=>Below.heap_setCell _ _ _ _ (fun (e2:j=g)=>hS j hj (by rw [e2];rfl)))
      have hkp2:=hkp.setCell (q:=⟨g,k,none⟩) (fun h=>h.2 rfl) (.int .i64 (-((c:Int) + 1)))
      have HX:Hid _:=And.intro BR2 (And.intro hst hkp2)
      clear BR2 hst hkp2
      go_wp2
      go_roundw
      case rel=>exact ⟨k + 1,by omega,by go_num,HX.out.1,by rw [← set_full xs _ k (by omega)];exact HX.out.2.1.1,HX.out.2.2⟩
      case measure=>simp [intOf];omega
    · obtain rfl:k=n:=by omega
      have hown':wr.ownsRow 0 3 1 (.slice a k cp) k (full 0 k (-((c:Int) + 1))):=by rw [full0];simpa [List.drop_of_length_le (Nat.le_of_eq hn1)] using hown
      have K0:KS w wr b S c 0 (.slice a k cp) k 0 0 (.slice a k cp) rL rM L M:=
        ⟨BR,⟨hown',hlb,fun i=>⟨fun g e e2=>hS g (.inr (.inl ⟨i,e2⟩)) e,fun g e e2=>hS g (.inr (.inr (.inl ⟨i,e2⟩))) e⟩,
          fun t i l' m' hl' _ g e e2=>absurd e (hS g (.inr (.inr (.inr ⟨t,l',List.mem_of_getElem? hl',e2⟩))))⟩,
          fun t _=>(hlen t).1,(hlen 0).1,fun t=>by have:=hlen t;omega,(fun e=>by cases e),fun t m hm=>by have:=hmk t m hm;omega,fun i hi=>.inl (hin i hi),fun i e=>.inl e,hkp⟩
      have hSb:S b:=hin b (.inl rfl)
      have HK0:Hid _:=K0
      clear K0 BR hown hown' hkp cr0 hlen hmk hin BA hl hn1 hS hlb hlS
      go_wp2
      go_loopw [1,5] (fun lv i wr=>∃ (j:Nat) (rL rM:Fin 3→Value) (L:Fin 3→List Value) (M:Fin 3→List Int),j≤4∧i=.int .i64 j∧KS w wr b S c 0 (.slice a k cp) (k + j) j 0 lv rL rM L M) (fun _ i _=>4 - (intOf i).toNat)
      case atStart=>exact ⟨0,rL,rM,L,M,by omega,rfl,HK0.out⟩
      case round =>
        clear HK0
        obtain ⟨j,rL,rM,L,M,hj,rfl,KA⟩:=hrel
        by_cases hj4:j < 4
        · obtain ⟨la,lc,hlv⟩:=own_len' KA.cu.own
          subst hlv
          have cb1:=cell_blk KA.ba.blk 1 (rL 0) rfl
          have fb1:=free_blk KA.ba.blk 1
          have bd0:=KA.bd 0
          have l0:=KA.l0
          have hbl:=lt_of_block KA.ba.blk
          have nb0:=KA.ba.nbL 0
          have oL:wr.ownsRow 0 33 1 (rL 0) (L 0).length (L 0):=KA.ba.oL 0
          have bl0:(L 0).length≤4 * c + j:=by omega
          have HKA:Hid _:=KA
          clear KA l0 bd0
          go_wp2_with
           (at_builtin
            refine wpList_append_lies _ rfl (.tmp 36) (.tmp 38) 40 rfl 0 33 i1 (.slice none 0 0) 1 24 Tryz.underlying40 hi1 hq0 hq1 hq2 rfl (by decide) _ _ _ rfl (oL.alloc _) ⟨wr.heap.size,0,none⟩ 1 1 [.slice la (k + j) lc] rfl rfl (cell_one_new _ _ _) (fun x hx=>by simp at hx;subst hx;rfl) (by decide) (by unfold maxLen;omega) (by omega) (by simp) (wr.heap.size + 1) (by simp) ?_
            intro g1 cap1 w2 hn1 hg1 hat1 hlt1
            have hb2:w2.heap[b]?=_:=(hg1.block b (by simp;omega) (fun e=>nb0 e.symm)).trans ((Below.heap_alloc _ _ _ hbl).trans HKA.out.ba.blk)
            have cb1':=cell_blk hb2 1 (rL 0) rfl
            have fb1':=free_blk hb2 1
            clear hb2 cb1 fb1)
          obtain ⟨rL1,L1,KB⟩:∃ rL1 L1,KS w (w2.setCell ⟨b,1,none⟩ (.slice (some ⟨g1,0,none⟩) ((L 0).length + 1) cap1)) b S c 0 (.slice a k cp) (k + j) j 1 (.slice la (k + j) lc) rL1 rM L1 M:=
            ⟨_,_,HKA.out.A hSb ((Kept.refl _ _).alloc _) hg1 hn1 (lies_of hat1 (by omega))⟩
          clear cb1' fb1' hn1 hg1 hat1 hlt1 HKA oL bl0 nb0 hbl
          generalize w2.setCell ⟨b,1,none⟩ (.slice (some ⟨g1,0,none⟩) ((L 0).length + 1) cap1)=w3 at KB ⊢
          have cb0:=cell_blk KB.ba.blk 0 (.int .i64 ((c:Int) + 1)) rfl
          have cb2:=cell_blk KB.ba.blk 2 (rM 0) rfl
          have fb2:=free_blk KB.ba.blk 2
          have bd0:=KB.bd 0
          have hbl:=lt_of_block KB.ba.blk
          have nb0:=KB.ba.nbM 0
          have oM:w3.ownsRow 0 3 1 (rM 0) (M 0).length ((M 0).map (Value.int .i64)):=KB.ba.oM 0
          have HKB:Hid _:=KB
          clear KB
          obtain ⟨mk,hm,hm1,hm2⟩:∃ mk:Int,(c:Int) + 1=mk∧1≤mk∧mk≤100000001:=⟨_,rfl,by omega,by omega⟩
          have hwr:IntKind.i64.wrap (-mk)=-mk:=wrap_neg mk hm1 hm2
          rw [hm] at cb0 ⊢
          have HM:Hid ((c:Int) + 1=mk):=hm
          clear hm
          go_region_law
            ((refine step_append_lies _ (by rfl) _ _ _ (by rfl) 0 3 i0 _ 1 8 Tryz.underlying33 hi hz0 hz1 hz2 rfl (by omega) (rM 0) (M 0).length ((M 0).map (Value.int .i64)) (by rfl) ((oM.alloc _).drew)
                ⟨w3.heap.size,0,none⟩ 1 1 [.int .i64 (-mk)] (by rfl) (by rfl) (World.news_of_block (cs:=#[.int .i64 (-mk)]) (t:=3) (fr:=(0,0)) (heap_alloc_new w3 _)) (by simp [Value.oneCell'])
                (by omega) (by unfold maxLen;omega) (by omega) (by simp) (w3.heap.size + 1) (by simp) ?_;intro g2 cap2 w4 hn2 hg2 hat2 hlt2;have hb4:w4.heap[b]?=_:=(hg2.block b (by simp;omega) (fun e=>nb0 e.symm)).trans ((Below.heap_alloc _ _ _ hbl).trans HKB.out.ba.blk);have fb2':=free_blk hb4 2;have cb2':=cell_blk hb4 2 (rM 0) rfl;clear hb4))
          all_goals
            obtain ⟨rM1,M1,KC⟩:∃ rM1 M1,KS w (w4.setCell ⟨b,2,none⟩ (.slice (some ⟨g2,0,none⟩) ((M 0).length + 1) cap2)) b S c 0 (.slice a k cp) (k + j) (j + 1) 0 (.slice la (k + j) lc) rL1 rM1 L1 M1:=
              ⟨_,_,HKB.out.B hSb (((Kept.refl _ _).alloc _).drew) hg2 (by rw [HM.out];exact hn2) (lies_of hat2 (by omega))⟩
            clear cb2' fb2' hn2 hg2 hat2 hlt2 HKB oM nb0 hbl cb0 cb2 fb2 bd0 hwr
            generalize w4.setCell ⟨b,2,none⟩ (.slice (some ⟨g2,0,none⟩) ((M 0).length + 1) cap2)=w5 at KC ⊢
            have cb0:w5.cell? ⟨b,0,none⟩=some (.int .i64 mk):=by rw [← HM.out];exact cell_blk KC.ba.blk 0 (.int .i64 ((c:Int) + 1)) rfl
            have own5:w5.ownsRow 0 3 1 (.slice la (k + j) lc) (k + j) (full 0 (k + j) (-mk)):=by rw [← HM.out];exact KC.cu.own
            have HKC:Hid _:=KC
            clear KC
            go_wp2_with
             (at_builtin
              refine wpList_append_split _ rfl (.tmp 56) (.tmp 62) 33 rfl 0 3 i0 (.int .i64 0) 1 8 Tryz.underlying33 hi hz0 hz1 hz2 rfl (by decide) _ _ _ rfl (own5.alloc _) ⟨w5.heap.size,0,none⟩ 1 1 [.int .i64 (-mk)] rfl rfl (cell_one_new _ _ _) (fun x hx=>by simp at hx;subst hx;rfl) (by decide) (by unfold maxLen;omega) (by omega) (by simp) ?_
              intro v3 w6 hn3 hg3 hs3
              have KD:KS w w6 b S c 0 (.slice a k cp) (k + j + 1) (j + 1) 0 v3 rL1 rM1 L1 M1:=HKC.out.C ((Kept.refl _ _).alloc _) hg3 (by rw [HM.out];exact hn3) hs3
              have HKD:Hid _:=KD
              clear KD hn3 hg3 hs3 own5 HKC cb0)
            have hm:=HM.out
            subst hm
            go_roundw
            case rel=>exact ⟨j + 1,rL1,rM1,L1,M1,by omega,by go_num,HKD.out⟩
            case measure=>simp [intOf];omega
        · obtain rfl:j=4:=by omega
          go_wp2
          go_end0
          refine ⟨rfl,⟨rL,rM,L,M,KA.ba,fun t=>?_,fun t m hm=>?_,KA.foot⟩,KA.kept⟩
          · have h1:=KA.bd t
            by_cases e:t=0
            · subst e
              have:=KA.l0
              omega
            · have:=KA.lo t e
              omega
          · have:=KA.mks t m hm
            omega
end Go.Proofs.YtpgcidpghmoibaaGreatDoor
