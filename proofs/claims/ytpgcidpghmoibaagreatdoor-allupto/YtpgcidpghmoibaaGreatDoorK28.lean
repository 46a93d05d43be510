/-
  THE WALK of looks
-/
import Derived.Test.YtpgcidpghmoibaaGreatDoorK24
import Derived.Deep.QuietTactic
import Derived.BigQuiet
namespace Go.Proofs.YtpgcidpghmoibaaGreatDoor
open Go.RowKit
theorem look_row {w:World} {b:Nat} {mark:Int} {rL rM:Fin 3→Value} {L:Fin 3→List Value} {M:Fin 3→List Int} (h:BookAt w b mark rL rM L M) (t:Fin 3) (hlen:(L t).length=(M t).length) {i:Nat} (hi:i < (L t).length) :
    ∃ gL cL gM cM l m n la lc,rL t=.slice (some ⟨gL,0,none⟩) (L t).length cL∧rM t=.slice (some ⟨gM,0,none⟩) (L t).length cM∧l=.slice la n lc∧m ∈ M t∧w.ownsRow 0 (elT t) (elS t) (.slice la n lc) n (full t n m) ∧
      ∀ wr,Below w.heap.size w wr→wr.cell? ⟨gL,i,none⟩=some l∧wr.cell? ⟨gM,i,none⟩=some (.int .i64 m):=by
  obtain ⟨gL,cL,e1,_,h1⟩:=(h.oL t).form (by omega)
  obtain ⟨gM,cM,e2,_,h2⟩:=(h.oM t).form (by omega)
  obtain ⟨l,hl⟩:∃ l,(L t)[i]?=some l:=⟨_,List.getElem?_eq_getElem hi⟩
  obtain ⟨m,hm⟩:∃ m,(M t)[i]?=some m:=⟨_,List.getElem?_eq_getElem (by omega)⟩
  obtain ⟨n,hown⟩:=h.good t i l m hl hm
  obtain ⟨la,lc,rfl⟩:=own_len' hown
  have oL:=h.oL t
  have oM:=h.oM t
  rw [e1] at oL
  rw [e2] at oM
  refine ⟨gL,cL,gM,cM,_,m,n,la,lc,e1,by rw [hlen];exact e2,rfl,List.mem_of_getElem? hm,hown,fun wr hb=>⟨?_,?_⟩⟩
  · rw [hb.cell (p:=⟨gL,i,none⟩) h1]
    exact own_cell1 oL hl
  · rw [hb.cell (p:=⟨gM,i,none⟩) h2]
    exact own_cell1 oM (by simp [hm])
theorem own_max {w:World} {b e size n:Nat} {v:Value} {xs:List Value} (h:w.ownsRow b e size v n xs):n≤9223372036854775807:=by
  rcases h.2 with ⟨_,rfl⟩ | ⟨g,cap,cur,rfl,_,_,h1,h2,_⟩
  · omega
  · unfold maxLen at h2;omega
theorem look_cell {w:World} {t:Fin 3} {la:Option Addr} {n lc:Nat} {m:Int} (h:w.ownsRow 0 (elT t) (elS t) (.slice la n lc) n (full t n m)) {k:Nat} (hk:k < n) :
    ∃ g,la=some ⟨g,0,none⟩∧∀ wr,Below w.heap.size w wr→∀ j u,(mkOf t m)[j]?=some u→wr.cell? ⟨g,k * elS t + j,none⟩=some u:=by
  obtain ⟨g,cap,hv,_,hlt⟩:=h.form (by omega)
  simp only [Value.slice.injEq] at hv
  obtain ⟨rfl,_,rfl⟩:=hv
  refine ⟨g,rfl,fun wr hb j u hu=>?_⟩
  have hj:j < elS t:=by rw [← mkOf_len t m];exact (List.getElem?_eq_some_iff.1 hu).1
  have hlt2:k * elS t + j < n * elS t:=by
    have:(k + 1) * elS t≤n * elS t:=Nat.mul_le_mul_right _ hk
    rw [Nat.succ_mul] at this
    omega
  rw [hb.cell (p:=⟨g,k * elS t + j,none⟩) hlt,h.cellAt _ hlt2]
  have e:(full t n m)[k * elS t + j]?=(full t (k + 1) m)[k * elS t + j]?:=by
    rw [← full_take t m n (k + 1) hk,List.getElem?_take,if_pos (by rw [Nat.succ_mul];omega)]
  rw [e,full_snoc,List.getElem?_append_right (by rw [full_len];omega),full_len,Nat.add_sub_cancel_left]
  exact hu
set_option maxRecDepth 100000 in
set_option maxHeartbeats 2000000 in
theorem looks_any (w:World) (b:Nat) (S:Nat→Prop) (c:Nat) (hB:Book w b S c) (hc:c≤100000000) :
    Calls Tryz.prog 22 #[.pointer (some ⟨b,0,none⟩)] w fun e w'=>e=.returned (.bool true)∧Below w.heap.size w w':=by
  obtain ⟨rL,rM,L,M,BA,hlen,hmk,hin⟩:=hB
  have hbl:=lt_of_block BA.blk
  obtain ⟨a0,c0,e0⟩:=own_len' (BA.oL 0)
  obtain ⟨a1,c1,e1⟩:=own_len' (BA.oL 1)
  obtain ⟨a2,c2,e2⟩:=own_len' (BA.oL 2)
  have fb:∀ (i:Nat) (v:Value) (wr:World),w.cell? ⟨b,i,none⟩=some v→Below w.heap.size w wr→wr.cell? ⟨b,i,none⟩=some v:=fun i v wr h hb=>(hb.cell (p:=⟨b,i,none⟩) hbl).trans h
  have C1:=cell_blk BA.blk 1 (.slice a0 (L 0).length c0) (by rw [← e0];rfl)
  have C3:=cell_blk BA.blk 3 (.slice a1 (L 1).length c1) (by rw [← e1];rfl)
  have C5:=cell_blk BA.blk 5 (.slice a2 (L 2).length c2) (by rw [← e2];rfl)
  obtain ⟨n0,hn0⟩:∃ n,(L 0).length=n:=⟨_,rfl⟩
  obtain ⟨n1,hn1⟩:∃ n,(L 1).length=n:=⟨_,rfl⟩
  obtain ⟨n2,hn2⟩:∃ n,(L 2).length=n:=⟨_,rfl⟩
  have b0:n0≤400000000:=by have:=(hlen 0).2;omega
  have b1:n1≤400000000:=by have:=(hlen 1).2;omega
  have b2:n2≤400000000:=by have:=(hlen 2).2;omega
  rw [hn0] at C1
  rw [hn1] at C3
  rw [hn2] at C5
  have HE:Hid (rL 0=.slice a0 n0 c0∧rL 1=.slice a1 n1 c1∧rL 2=.slice a2 n2 c2):=⟨by rw [← hn0];exact e0,by rw [← hn1];exact e1,by rw [← hn2];exact e2⟩
  have HN:Hid ((L 0).length=n0∧(L 1).length=n1∧(L 2).length=n2):=⟨hn0,hn1,hn2⟩
  have HB:Hid (BookAt w b c rL rM L M):=BA
  have HC:Hid (w.cell? ⟨b,1,none⟩=some (.slice a0 n0 c0)∧w.cell? ⟨b,3,none⟩=some (.slice a1 n1 c1)∧w.cell? ⟨b,5,none⟩=some (.slice a2 n2 c2)):=⟨C1,C3,C5⟩
  have HL:Hid (∀ t,(L t).length=(M t).length∧(L t).length≤4 * c):=hlen
  have HF:Hid _:=fb
  have HM:Hid (∀ t,∀ m ∈ M t,-(c:Int)≤m∧m≤0):=hmk
  clear e0 e1 e2 hn0 hn1 hn2 BA C1 C3 C5 hlen fb hmk hin
  go_enter Tryz.func22,Tryz.ntmps22
  go_wp2
  go_loopw [3] (fun i wr=>∃ k:Nat,k≤n0∧i=.int .i64 k∧Below w.heap.size w wr) (fun i _=>n0 - (intOf i).toNat)
  case atStart=>exact ⟨0,Nat.zero_le _,rfl,Below.refl _ _⟩
  case round =>
    obtain ⟨i,hi,rfl,hbr⟩:=hrel
    have cb1:=HF.out 1 _ wr HC.out.1 hbr
    by_cases hlt:i < n0
    · obtain ⟨gL,cL,gM,cM,l,m,n,la,lc,eL,eM,rfl,hm,hown,hcell⟩:=look_row HB.out 0 (HL.out 0).1 (i:=i) (by rw [HN.out.1];exact hlt)
      rw [HN.out.1] at eL eM
      have ea:a0=some ⟨gL,0,none⟩:=by have:=HE.out.1.symm.trans eL;simp only [Value.slice.injEq] at this;exact this.1
      subst ea
      have C2:=cell_blk HB.out.blk 2 (.slice (some ⟨gM,0,none⟩) n0 cM) (by rw [← eM];rfl)
      have hx:=hcell wr hbr
      have hx1:=hx.1
      have HX:Hid (w.cell? ⟨b,2,none⟩=some (.slice (some ⟨gM,0,none⟩) n0 cM)∧w.ownsRow 0 (elT 0) (elS 0) (.slice la n lc) n (full 0 n m)∧∀ wr,Below w.heap.size w wr→wr.cell? ⟨gL,i,none⟩=some (.slice la n lc)∧wr.cell? ⟨gM,i,none⟩=some (.int .i64 m)):=⟨C2,hown,hcell⟩
      clear C2 hown hcell eL eM hx hm
      have hi0:(0:Int)≤(i:Int):=by omega
      have hi1:(i:Int) < (n0:Int):=by omega
      have hnm:=own_max HX.out.2.1
      go_wp2
      go_loopw [4] (fun k wr=>∃ j:Nat,j≤n∧k=.int .i64 j∧Below w.heap.size w wr) (fun k _=>n - (intOf k).toNat)
      case atStart=>exact ⟨0,Nat.zero_le _,rfl,hbr⟩
      case round =>
        clear cb1 hx1 hbr
        obtain ⟨j,hj,rfl,hbr⟩:=hrel
        have cb1:=HF.out 1 _ wr HC.out.1 hbr
        have hx1:=(HX.out.2.2 wr hbr).1
        by_cases hlt2:j < n
        · obtain ⟨g,rfl,hg⟩:=look_cell HX.out.2.1 hlt2
          have ce:wr.cell? ⟨g,j,none⟩=some (.int .i64 m):=by have:=hg wr hbr 0 _ rfl;simpa [elS] using this
          have cb2:=HF.out 2 _ wr HX.out.1 hbr
          have hx2:=(HX.out.2.2 wr hbr).2
          have hj0:(0:Int)≤(j:Int):=by omega
          have hj1:(j:Int) < (n:Int):=by omega
          clear hg
          go_wp2
          go_quiet (fail)
          go_wp2
          go_roundw
          case rel=>exact ⟨j + 1,by omega,by go_num,below_drewN hbr _⟩
          case measure=>simp [intOf];omega
        · obtain rfl:j=n:=by omega
          go_wp2
          go_roundw
          case rel=>exact ⟨i + 1,by omega,by go_num,hbr⟩
          case measure=>simp [intOf];omega
    · go_wp2
      go_loopw [5] (fun i wr=>∃ k:Nat,k≤n1∧i=.int .i64 k∧Below w.heap.size w wr) (fun i _=>n1 - (intOf i).toNat)
      case atStart=>exact ⟨0,Nat.zero_le _,rfl,hbr⟩
      case round =>
        clear cb1 hbr
        obtain ⟨i,hi,rfl,hbr⟩:=hrel
        have cb3:=HF.out 3 _ wr HC.out.2.1 hbr
        by_cases hlt:i < n1
        · obtain ⟨gL,cL,gM,cM,l,m,n,la,lc,eL,eM,rfl,hm,hown,hcell⟩:=look_row HB.out 1 (HL.out 1).1 (i:=i) (by rw [HN.out.2.1];exact hlt)
          rw [HN.out.2.1] at eL eM
          have ea:a1=some ⟨gL,0,none⟩:=by have:=HE.out.2.1.symm.trans eL;simp only [Value.slice.injEq] at this;exact this.1
          subst ea
          have C2:=cell_blk HB.out.blk 4 (.slice (some ⟨gM,0,none⟩) n1 cM) (by rw [← eM];rfl)
          have hx:=hcell wr hbr
          have hx1:=hx.1
          have HX:Hid (w.cell? ⟨b,4,none⟩=some (.slice (some ⟨gM,0,none⟩) n1 cM)∧w.ownsRow 0 (elT 1) (elS 1) (.slice la n lc) n (full 1 n m)∧∀ wr,Below w.heap.size w wr→wr.cell? ⟨gL,i,none⟩=some (.slice la n lc)∧wr.cell? ⟨gM,i,none⟩=some (.int .i64 m)):=⟨C2,hown,hcell⟩
          have hm1:=(HM.out 1 m hm).1
          have hm2:=(HM.out 1 m hm).2
          clear C2 hown hcell eL eM hx hm
          have hi0:(0:Int)≤(i:Int):=by omega
          have hi1:(i:Int) < (n1:Int):=by omega
          have hnm:=own_max HX.out.2.1
          go_wp2
          go_loopw [6] (fun k wr=>∃ j:Nat,j≤n∧k=.int .i64 j∧Below w.heap.size w wr) (fun k _=>n - (intOf k).toNat)
          case atStart=>exact ⟨0,Nat.zero_le _,rfl,hbr⟩
          case round =>
            clear cb3 hx1 hbr
            obtain ⟨j,hj,rfl,hbr⟩:=hrel
            have cb3:=HF.out 3 _ wr HC.out.2.1 hbr
            have hx1:=(HX.out.2.2 wr hbr).1
            by_cases hlt2:j < n
            · obtain ⟨g,rfl,hg⟩:=look_cell HX.out.2.1 hlt2
              have ce:wr.cell? ⟨g,j,none⟩=some (.int .i32 m):=by have:=hg wr hbr 0 _ rfl;simpa [elS] using this
              have cb2:=HF.out 4 _ wr HX.out.1 hbr
              have hx2:=(HX.out.2.2 wr hbr).2
              have hj0:(0:Int)≤(j:Int):=by omega
              have hj1:(j:Int) < (n:Int):=by omega
              clear hg
              go_wp2
              go_quiet (fail)
              go_wp2
              go_roundw
              case rel=>exact ⟨j + 1,by omega,by go_num,below_drewN hbr _⟩
              case measure=>simp [intOf];omega
            · obtain rfl:j=n:=by omega
              go_wp2
              go_roundw
              case rel=>exact ⟨i + 1,by omega,by go_num,hbr⟩
              case measure=>simp [intOf];omega
        · go_wp2
          go_loopw [7] (fun i wr=>∃ k:Nat,k≤n2∧i=.int .i64 k∧Below w.heap.size w wr) (fun i _=>n2 - (intOf i).toNat)
          case atStart=>exact ⟨0,Nat.zero_le _,rfl,hbr⟩
          case round =>
            clear cb3 hbr
            obtain ⟨i,hi,rfl,hbr⟩:=hrel
            have cb5:=HF.out 5 _ wr HC.out.2.2 hbr
            by_cases hlt:i < n2
            · obtain ⟨gL,cL,gM,cM,l,m,n,la,lc,eL,eM,rfl,hm,hown,hcell⟩:=look_row HB.out 2 (HL.out 2).1 (i:=i) (by rw [HN.out.2.2];exact hlt)
              rw [HN.out.2.2] at eL eM
              have ea:a2=some ⟨gL,0,none⟩:=by have:=HE.out.2.2.symm.trans eL;simp only [Value.slice.injEq] at this;exact this.1
              subst ea
              have C2:=cell_blk HB.out.blk 6 (.slice (some ⟨gM,0,none⟩) n2 cM) (by rw [← eM];rfl)
              have hx:=hcell wr hbr
              have hx1:=hx.1
              have HX:Hid (w.cell? ⟨b,6,none⟩=some (.slice (some ⟨gM,0,none⟩) n2 cM)∧w.ownsRow 0 (elT 2) (elS 2) (.slice la n lc) n (full 2 n m)∧∀ wr,Below w.heap.size w wr→wr.cell? ⟨gL,i,none⟩=some (.slice la n lc)∧wr.cell? ⟨gM,i,none⟩=some (.int .i64 m)):=⟨C2,hown,hcell⟩
              have hm1:=(HM.out 2 m hm).1
              have hm2:=(HM.out 2 m hm).2
              clear C2 hown hcell eL eM hx hm
              have hi0:(0:Int)≤(i:Int):=by omega
              have hi1:(i:Int) < (n2:Int):=by omega
              have hnm:=own_max HX.out.2.1
              go_wp2
              go_loopw [8] (fun k wr=>∃ j:Nat,j≤n∧k=.int .i64 j∧Below w.heap.size w wr) (fun k _=>n - (intOf k).toNat)
              case atStart=>exact ⟨0,Nat.zero_le _,rfl,hbr⟩
              case round =>
                clear cb5 hx1 hbr
                obtain ⟨j,hj,rfl,hbr⟩:=hrel
                have cb5:=HF.out 5 _ wr HC.out.2.2 hbr
                have hx1:=(HX.out.2.2 wr hbr).1
                by_cases hlt2:j < n
                · obtain ⟨g,rfl,hg⟩:=look_cell HX.out.2.1 hlt2
                  have ce0:wr.cell? ⟨g,j * 3,none⟩=some (.int .i64 m):=by have:=hg wr hbr 0 _ rfl;simpa [elS] using this
                  have ce1:wr.cell? ⟨g,j * 3 + 1,none⟩=some (.int .i64 0):=by have:=hg wr hbr 1 _ rfl;simpa [elS] using this
                  have ce2:wr.cell? ⟨g,j * 3 + 2,none⟩=some (.int .i64 0):=by have:=hg wr hbr 2 _ rfl;simpa [elS] using this
                  have cb2:=HF.out 6 _ wr HX.out.1 hbr
                  have hx2:=(HX.out.2.2 wr hbr).2
                  have hj0:(0:Int)≤(j:Int):=by omega
                  have hj1:(j:Int) < (n:Int):=by omega
                  clear hg
                  go_wp2
                  have hbW:Below w.heap.size w (wr.alloc (.cells #[.int .i64 m,.int .i64 0,.int .i64 0] 65)):=hbr.alloc hbr.size _
                  have hblk:(wr.alloc (.cells #[.int .i64 m,.int .i64 0,.int .i64 0] 65)).heap[wr.heap.size]?=some (.cells #[.int .i64 m,.int .i64 0,.int .i64 0] 65 (0,0)):=heap_alloc_new wr _
                  generalize wr.alloc (.cells #[.int .i64 m,.int .i64 0,.int .i64 0] 65)=W2 at hbW hblk ⊢
                  have q0:=cell_blk hblk 0 (.int .i64 m) rfl
                  have q1:=cell_blk hblk 1 (.int .i64 0) rfl
                  have q2:=cell_blk hblk 2 (.int .i64 0) rfl
                  clear cb2 hx2 cb5 hx1 ce0 ce1 ce2 hblk
                  have cb2:=HF.out 6 _ W2 HX.out.1 hbW
                  have hx2:=(HX.out.2.2 W2 hbW).2
                  have gd:(m != m)=false:=by simp
                  have ge:((0:Int) != 0)=false:=by simp
                  go_quiet (fail)
                  go_wp2
                  go_roundw
                  case rel=>exact ⟨j + 1,by omega,by go_num,below_drewN hbW _⟩
                  case measure=>simp [intOf];omega
                · obtain rfl:j=n:=by omega
                  go_wp2
                  go_roundw
                  case rel=>exact ⟨i + 1,by omega,by go_num,hbr⟩
                  case measure=>simp [intOf];omega
            · go_wp2
              go_ret
              exact ⟨rfl,hbr⟩
end Go.Proofs.YtpgcidpghmoibaaGreatDoor
