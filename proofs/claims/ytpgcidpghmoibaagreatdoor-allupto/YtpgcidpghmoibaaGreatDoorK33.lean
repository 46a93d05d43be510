/-
  THE PROGRAM's TREES
  THE PROGRAM's MACHINE
  THE PROGRAM's MACHINE
  THE PROGRAM's MACHINE
-/
import Derived.Test.YtpgcidpghmoibaaGreatDoorK31
import Derived.Test.YtpgcidpghmoibaaGreatDoorK32
namespace Go.Proofs.YtpgcidpghmoibaaGreatDoor
namespace Pr
open Go.RowKit
open Rf (Kept)
open G (PNode)
theorem heap_two (w:World) (o o2:Obj):((w.alloc o).alloc o2).heap[w.heap.size + 1]?=some o2:=by
  have:=heap_alloc_new (w.alloc o) o2
  rw [show (w.alloc o).heap.size=w.heap.size + 1 by simp] at this
  exact this
theorem own_made (w:World) (base e size n:Nat) (cs:Array Value) (hb:base≤w.heap.size) (hn:cs.size=n * size) (hm:n≤maxLen):(w.alloc (.cells cs e)).ownsRow base e size (.slice (some ⟨w.heap.size,0,none⟩) n n) n cs.toList:=by
  refine ⟨by simpa using hn,.inr ⟨w.heap.size,n,cs,rfl,hb,heap_alloc_new w _,Nat.le_refl _,hm,hn,?_⟩⟩
  rw [List.take_of_length_le (by simpa using Nat.le_of_eq hn)]
set_option maxRecDepth 100000 in
set_option maxHeartbeats 1000000 in
theorem leaf_any (w:World) (vr:Value) (o:Bool) (hv:∃ a n c,vr=.slice a n c):Calls Tryz.prog 153 #[.agg #[vr,.bool o]] w fun e w'=>∃ a,e=.returned (pv a)∧w.heap.size≤a∧w'.heap[a]?=some (.cells (leafCells vr o) 149 (0,0))∧Below w.heap.size w w':=by
  obtain ⟨a,n,c,rfl⟩:=hv
  go_enter Tryz.func153,Tryz.ntmps153
  go_wp2
  go_ret
  refine ⟨_,rfl,?_,heap_two _ _ _,((Below.refl _ w).alloc (Nat.le_refl _) _).alloc (by simp) _⟩
  simp
set_option maxRecDepth 100000 in
set_option maxHeartbeats 1000000 in
theorem repeat_any (w:World) (k p n:Nat) (hp:w.cell? ⟨p,4,none⟩=some (.int .i64 (n:Int))) :
    Calls Tryz.prog 149 #[.int .i64 (k:Int),pv p] w fun e w'=>∃ a g,e=.returned (pv a)∧w.heap.size≤a∧w.heap.size≤g∧w'.heap[a]?=some (.cells (innerCells k (.slice (some ⟨g,0,none⟩) 1 1) n) 149 (0,0))∧w'.ownsRow 0 143 1 (.slice (some ⟨g,0,none⟩) 1 1) 1 [pv p]∧Below w.heap.size w w':=by
  unfold pv
  have hpl:=block_lt_of_cell hp
  go_enter Tryz.func149,Tryz.ntmps149
  go_wp2
  go_ret
  refine ⟨_,rfl,?_,w.heap.size,Nat.le_refl _,heap_two _ _ _,?_,((Below.refl _ w).alloc (Nat.le_refl _) _).alloc (by simp) _⟩
  · simp
  · exact (own_made w 0 143 1 1 #[.pointer (some ⟨p,0,none⟩)] (Nat.zero_le _) rfl (by unfold maxLen;omega)).alloc _
theorem take_snoc {α:Type} {l:List α} {k:Nat} {x:α} (h:l[k]?=some x):l.take (k + 1)=l.take k ++ [x]:=by
  rw [List.take_add_one,h]
  rfl
set_option maxRecDepth 100000 in
set_option maxHeartbeats 1000000 in
theorem total_any (w:World) (T:List PNode) (B ps:List Nat) (v:Value) (h:w.ownsRow 0 143 1 v ps.length (ptrs B ps)) (hn:ps.length≤100000) (hc:∀ p ∈ ps,w.cell? ⟨bl B p,4,none⟩=some (.int .i64 (G.sz T p:Int))) (hb:∀ p ∈ ps,G.sz T p≤101) :
    Calls Tryz.prog 50 #[v] w fun e w'=>e=.returned (.int .i64 ((min (G.sizeOf T ps) 101:Nat):Int))∧w'=w:=by
  obtain ⟨va,vc,hve⟩:=Rf.own_len h
  subst hve
  go_enter Tryz.func50,Tryz.ntmps50
  go_wp2
  go_loopw [3,8] (fun vt vk wr=>∃ k t:Nat,vk=.int .i64 k∧k≤ps.length∧vt=.int .i64 t∧t=min (G.sizeOf T (ps.take k)) 101∧wr=w) (fun _ vk _=>ps.length - (intOf vk).toNat)
  case atStart=>exact ⟨0,0,rfl,Nat.zero_le _,rfl,rfl,rfl⟩
  case round =>
    obtain ⟨k,t,rfl,hk,rfl,ht,rfl⟩:=hrel
    have HT:Hid _:=ht
    have ht1:t≤101:=by omega
    clear ht
    by_cases hlt:k < ps.length
    · have hx:ps[k]?=some (ps[k]'hlt):=List.getElem?_eq_getElem _
      generalize ps[k]'hlt=p at hx
      have hpm:=List.mem_of_getElem? hx
      obtain ⟨g,cap,hv,_,_⟩:=h.form (by omega)
      simp only [Value.slice.injEq] at hv
      obtain ⟨rfl,_,rfl⟩:=hv
      have c0:wr.cell? ⟨g,k,none⟩=some (.pointer (some ⟨bl B p,0,none⟩)):=own_cell' h k (by simp [ptrs,hx,pv])
      have c1:=hc p hpm
      have hsb:=hb p hpm
      have hst:G.sizeOf T (ps.take (k + 1))=G.sizeOf T (ps.take k) + G.sz T p:=by
        rw [take_snoc hx]
        simp [G.sizeOf]
      have HS:Hid _:=hst
      clear hst
      generalize hq:G.sz T p=q at c1 hsb
      have HQ:Hid _:=hq
      clear hq hc hb
      go_wp2
      refine ⟨⟨k + 1,min (t + q) 101,by go_num,by omega,?_,?_,by first | rfl | trivial⟩,by simp [intOf];omega⟩
      · congr 1
        omega
      · rw [HS.out,HQ.out,HT.out]
        omega
    · have e:k=ps.length:=by omega
      subst e
      have hlt':¬ (ps.length:Int) < (ps.length:Int):=by omega
      go_wp2
      go_ret
      refine ⟨?_,rfl⟩
      rw [HT.out,List.take_length]
      rfl
set_option maxRecDepth 100000 in
set_option maxHeartbeats 1000000 in
theorem join_one (w:World) (B:List Nat) (k p:Nat) (v:Value) (h:w.ownsRow 0 143 1 v 1 (ptrs B [p])):Calls Tryz.prog 129 #[.int .i64 (k:Int),v] w fun e w'=>e=.returned (pv (bl B p))∧w'=w:=by
  obtain ⟨g,cap,hv,_,_⟩:=h.form (by omega)
  subst hv
  have c0:w.cell? ⟨g,0,none⟩=some (.pointer (some ⟨bl B p,0,none⟩)):=own_cell' h 0 (by simp [ptrs,pv])
  go_enter Tryz.func129,Tryz.ntmps129
  go_wp2
  go_ret
  exact ⟨rfl,rfl⟩
set_option maxRecDepth 100000 in
set_option maxHeartbeats 1000000 in
theorem join_many (w:World) (T:List PNode) (B ps:List Nat) (k:Nat) (v:Value) (h:w.ownsRow 0 143 1 v ps.length (ptrs B ps)) (h1:ps.length ≠ 1) (hn:ps.length≤100000) (hc:∀ p ∈ ps,w.cell? ⟨bl B p,4,none⟩=some (.int .i64 (G.sz T p:Int))) (hb:∀ p ∈ ps,G.sz T p≤101) :
    Calls Tryz.prog 129 #[.int .i64 (k:Int),v] w fun e w'=>∃ a,e=.returned (pv a)∧w.heap.size≤a∧w'.heap[a]?=some (.cells (innerCells k v (min (G.sizeOf T ps) 101)) 149 (0,0))∧Below w.heap.size w w':=by
  have hT:=total_any w T B ps v h hn hc hb
  obtain ⟨va,vc,hve⟩:=Rf.own_len h
  subst hve
  have hne:¬ (ps.length:Int)=1:=by omega
  generalize min (G.sizeOf T ps) 101=q at *
  go_enter Tryz.func129,Tryz.ntmps129
  go_wp2_with (go_at_call 50;refine hT.mono ?_;rintro e w1 ⟨rfl,rfl⟩)
  go_ret
  exact ⟨_,rfl,Nat.le_refl _,heap_alloc_new _ _,(Below.refl _ _).alloc (Nat.le_refl _) _⟩
end Pr
end Go.Proofs.YtpgcidpghmoibaaGreatDoor

namespace Go.Proofs.YtpgcidpghmoibaaGreatDoor
namespace Pr
open Go.RowKit
open Rf (Kept Lies)
open G (PNode)
def AddAt (I:Nat→Prop) (b:Nat) (T:List PNode) (B:List Nat) (n:Nat):Prop:=
  ∀ (w:World) (v:Value) (P:List Pl) (V:List Value) (f:PB),MaAt w I b v P V f→Tree w I T B→P.length + (G.lv T n).length≤100→Calls Tryz.prog 104 #[pv b,pv (bl B n)] w fun e w'=>APost I b f w v (adN T n P) e w'
set_option maxRecDepth 100000 in
set_option maxHeartbeats 2000000 in
theorem addor_any (I:Nat→Prop) (b:Nat) (T:List PNode) (B ps:List Nat) (hIH:∀ p ∈ ps,AddAt I b T B p) (hpl:∀ p ∈ ps,p < T.length) (hT:G.WF T) (w:World) (v:Value) (P:List Pl) (V:List Value) (f:PB) (vp:Value)
    (hM:MaAt w I b v P V f) (hTr:Tree w I T B) (hp:Parts w I B ps vp) (hn:ps.length≤100000) (hsz:P.length + (ps.flatMap (G.lv T)).length≤100) :
    Calls Tryz.prog 132 #[pv b,vp] w fun e w'=>APost I b f w v (foldO T ps (P,⟨PB.zero,PB.zero,false⟩)) e w':=by
  obtain ⟨va,vc,hve⟩:=Rf.own_len hp.row
  subst hve
  have HI:Hid (Hd w I b v P V f ⟨PB.zero,PB.zero,false⟩ v _):=Hd.start hM hTr.lt ⟨PB.zero,PB.zero,false⟩
  go_enter Tryz.func132,Tryz.ntmps132
  go_wp2
  go_loopw [7,8,11] (fun _ _ vk wr=>∃ (k:Nat) (v':Value) (V':List Value),vk=.int .i64 k∧k≤ps.length∧Hd w I b v (foldO T (ps.take k) (P,⟨PB.zero,PB.zero,false⟩)).1 V' f (foldO T (ps.take k) (P,⟨PB.zero,PB.zero,false⟩)).2 v' wr) (fun _ _ vk _=>ps.length - (intOf vk).toNat)
  case atStart=>exact ⟨0,v,V,rfl,Nat.zero_le _,HI.out⟩
  case round =>
    obtain ⟨k,v',V',rfl,hk,hH⟩:=hrel
    by_cases hlt:k < ps.length
    · have hlt':(k:Int) < (ps.length:Int):=by omega
      have hx:ps[k]?=some (ps[k]'hlt):=List.getElem?_eq_getElem _
      generalize ps[k]'hlt=p at hx
      have hpm:=List.mem_of_getElem? hx
      have hfl:=foldO_len hT (ps.take k) (fun q hq=>hpl q (List.mem_of_mem_take hq)) (P,⟨PB.zero,PB.zero,false⟩)
      have hft:=flat_take (T:=T) hx
      have hS:foldO T (ps.take (k + 1)) (P,⟨PB.zero,PB.zero,false⟩)=orStep (foldO T (ps.take k) (P,⟨PB.zero,PB.zero,false⟩)) (adN T p (foldO T (ps.take k) (P,⟨PB.zero,PB.zero,false⟩)).1):=by
        rw [take_snoc hx,foldO_snoc]
      have HS:Hid _:=hS
      clear hS
      generalize foldO T (ps.take k) (P,⟨PB.zero,PB.zero,false⟩)=s at *
      obtain ⟨SP,sf,sl,se⟩:=s
      simp only at hfl hH
      have hP:=hp.mv hH.mv hTr.lt hM.ib hM.iv
      obtain ⟨g,cap,hv,_,_⟩:=hP.row.form (by omega)
      simp only [Value.slice.injEq] at hv
      obtain ⟨rfl,_,rfl⟩:=hv
      have c0:wr.cell? ⟨g,k,none⟩=some (.pointer (some ⟨bl B p,0,none⟩)):=own_cell' hP.row k (by simp [ptrs,hx,pv])
      have hA:=hIH p hpm wr v' SP V' f hH.ma (hH.mv.tree hTr hM.ib hM.iv) (by omega)
      unfold APost at hA
      generalize adN T p SP=r at *
      obtain ⟨RP,rf,rl,re⟩:=r
      simp only at hA
      clear hIH hfl hft
      cases se
      all_goals
        go_wp2_with (first
          | (go_at_call 104
             refine hA.mono ?_
             rintro e w1 ⟨rfl,v1,V1,hM1,hv1⟩
             have M1:=hH.add hM1 hv1 ⟨rf,rl,re⟩
             have e5:=M1.hd.e5.reads
             simp only at e5
             obtain ⟨a0,a1,a2,a3,a4,af⟩:=e5)
          | (go_at_call 105
             have M2G:=M2F
             refine (bor_any _ sl rl).mono ?_
             rintro e w3 ⟨rfl,hb3⟩
             have M3:=M2F.below hb3
             have e5:=M3.hd.e5.reads
             obtain ⟨i0,i1,i2,i3,i4,if'⟩:=e5
             have M3L:=M3.l5 (sl.or rl)
             have e5:=M3L.hd.e5.reads
             unfold setL at e5
             obtain ⟨l0,l1,l2,l3,l4,lf⟩:=e5
             have e8:=M3L.e8.reads
             unfold setL at e8
             obtain ⟨m0,m1,m2,m3,m4,_⟩:=e8)
          | (go_at_call 105
             refine (bor_any _ sf rf).mono ?_
             rintro e w2 ⟨rfl,hb2⟩
             have M2:=M1.below hb2
             have e5:=M2.hd.e5.reads
             obtain ⟨b0,b1,b2,b3,b4,bf⟩:=e5
             have M2F:=M2.f5 (sf.or rf)
             have e5:=M2F.hd.e5.reads
             unfold setF at e5
             obtain ⟨f0,f1,f2,f3,f4,ff⟩:=e5
             have e8:=M2F.e8.reads
             unfold setF at e8
             obtain ⟨h0,h1,h2,h3,h4,_⟩:=e8))
        refine ⟨⟨k + 1,v1,V1,by go_num,by omega,?_⟩,by simp [intOf];omega⟩
        rw [HS.out]
        exact (M3L.e5' _).hd
    · have e:k=ps.length:=by omega
      subst e
      have hlt':¬ (ps.length:Int) < (ps.length:Int):=by omega
      rw [List.take_length] at hH
      obtain ⟨s,hs⟩:∃ s,foldO T ps (P,⟨PB.zero,PB.zero,false⟩)=s:=⟨_,rfl⟩
      rw [hs] at hH
      obtain ⟨SP,sf,sl,se⟩:=s
      have HE:Hid _:=hs
      clear hs
      simp only at hH
      obtain ⟨a0,a1,a2,a3,a4,af⟩:=hH.e5.reads
      have e4:=hH.e4.reads
      unfold En.zero PB.zero at e4
      obtain ⟨z0,z1,z2,z3,z4,zf⟩:=e4
      go_wp2
      change bodyPost _ _ _ _ _ (setEn wr w.heap.size ⟨sf,sl,se⟩)
      obtain ⟨d1,d2,d3⟩:=hH.done
      generalize setEn wr w.heap.size ⟨sf,sl,se⟩=w6 at *
      obtain ⟨R0,R1,R2,R3,R4,_⟩:=d1.reads
      refine bodyPost_ret (by simp [results,Tryz.results132,go_sem,R0,R1,R2,R3,R4];try rfl) rfl ?_
      unfold APost
      rw [HE.out]
      exact ⟨rfl,v',V',d2,d3⟩
end Pr
end Go.Proofs.YtpgcidpghmoibaaGreatDoor

namespace Go.Proofs.YtpgcidpghmoibaaGreatDoor
namespace Pr
open Go.RowKit
open Rf (Kept Lies)
open G (PNode)
structure PlAt (w:World) (b g n cap k:Nat) (p:Pl):Prop where
  m0:w.cell? ⟨b,0,none⟩=some (.slice (some ⟨g,0,none⟩) n cap)
  p4:w.cell? ⟨g,k * 6 + 4,none⟩=some (.int .u64 p.be.a)
  p5:w.cell? ⟨g,k * 6 + 5,none⟩=some (.int .u64 p.be.c)
  fr:∀ o,w.frozen? ⟨g,o,none⟩=false
theorem MaAt.pl {w:World} {I:Nat→Prop} {b g n cap:Nat} {P:List Pl} {V:List Value} {f:PB} (h:MaAt w I b (.slice (some ⟨g,0,none⟩) n cap) P V f) {k:Nat} {p:Pl} (hp:P[k]?=some p):PlAt w b g n cap k p:=by
  have hkl:k < P.length:=(List.getElem?_eq_some_iff.1 hp).1
  have hv:V[k]?=some (V[k]'(by rw [h.len];exact hkl)):=List.getElem?_eq_getElem _
  have hm0:=Rf.cell_blk h.blk 0 _ rfl
  have hrow:=h.row
  obtain ⟨a,c,he⟩:=Rf.own_len hrow
  simp only [Value.slice.injEq] at he
  obtain ⟨_,he,_⟩:=he
  subst he
  exact ⟨hm0,own_cell' hrow (k * 6 + 4) ((pcells_get hp hv 4 (by omega)).trans rfl),own_cell' hrow (k * 6 + 5) ((pcells_get hp hv 5 (by omega)).trans rfl),fun o=>hrow.frozenAt o⟩
structure LInv (w:World) (I:Nat→Prop) (b g cap:Nat) (P:List Pl) (V:List Value) (f x y:PB) (k:Nat) (wr:World):Prop where
  ma:MaAt wr I b (.slice (some ⟨g,0,none⟩) P.length cap) (lnkP x y k P) V f
  kept:Kept (fun k=>k ≠ g) w wr
  hx:wr.heap[w.heap.size]?=some (.cells #[.int .u64 x.a,.int .u64 x.c] 153 (0,0))
  hy:wr.heap[w.heap.size + 1]?=some (.cells #[.int .u64 y.a,.int .u64 y.c] 153 (0,0))
theorem LInv.below {w:World} {I:Nat→Prop} {b g cap:Nat} {P:List Pl} {V:List Value} {f x y:PB} {k:Nat} {w1 w2:World} (h:LInv w I b g cap P V f x y k w1) (hI:∀ k,I k→k < w.heap.size) (hb:Below w1.heap.size w1 w2):LInv w I b g cap P V f x y k w2 where
  ma:=h.ma.below (fun k hk=>Nat.lt_of_lt_of_le (hI k hk) h.kept.size) hb
  kept:=h.kept.trans (Kept.of_below hb)
  hx:=(hb.block _ (lt_of_block h.hx)).trans h.hx
  hy:=(hb.block _ (lt_of_block h.hy)).trans h.hy
theorem LInv.next {w:World} {I:Nat→Prop} {b g cap:Nat} {P:List Pl} {V:List Value} {f x y:PB} {k:Nat} {w2:World} {p:Pl} (h:LInv w I b g cap P V f x y k w2) (hg:g < w.heap.size) (hp:P[k]?=some p) (hx:x.has k=true) :
    LInv w I b g cap P V f x y (k + 1) ((w2.setCell ⟨g,k * 6 + 4,none⟩ (.int .u64 (p.be.or y).a)).setCell ⟨g,k * 6 + 4 + 1,none⟩ (.int .u64 (p.be.or y).c)):=by
  have e:=lnkP_len x y k P
  have hkl:k < P.length:=(List.getElem?_eq_some_iff.1 hp).1
  have h0:MaAt w2 I b (.slice (some ⟨g,0,none⟩) (lnkP x y k P).length cap) (lnkP x y k P) V f:=by rw [e];exact h.ma
  have h1:=h0.put k p { p with be:=⟨(p.be.or y).a,p.be.c⟩ } (lnkP_get x y P k p hp) 4 (by omega) (.int .u64 (p.be.or y).a) rfl (fun v=>rfl)
  have h2:=h1.put k { p with be:=⟨(p.be.or y).a,p.be.c⟩ } (p.or y) (List.getElem?_set_self (by rw [e];exact hkl)) 5 (by omega) (.int .u64 (p.be.or y).c) rfl (fun v=>rfl)
  rw [List.set_set,← lnkP_yes x y P k p hp hx,lnkP_len] at h2
  exact { ma:=h2,kept:=(h.kept.setCell (fun hn=>hn rfl) _).setCell (fun hn=>hn rfl) _,hx:=(Rf.blk_ne _ (by omega)).trans ((Rf.blk_ne _ (by omega)).trans h.hx),hy:=(Rf.blk_ne _ (by omega)).trans ((Rf.blk_ne _ (by omega)).trans h.hy) }
set_option maxRecDepth 100000 in
set_option maxHeartbeats 4000000 in
theorem link_some (w:World) (I:Nat→Prop) (b g cap:Nat) (P:List Pl) (V:List Value) (f x y:PB) (hM:MaAt w I b (.slice (some ⟨g,0,none⟩) P.length cap) P V f) (hI:∀ k,I k→k < w.heap.size) (hn:P.length≤100) :
    Calls Tryz.prog 145 #[pv b,x.val,y.val] w fun e w'=>e=.returned (.tuple #[])∧MaAt w' I b (.slice (some ⟨g,0,none⟩) P.length cap) (lnk x y P) V f∧Kept (fun k=>k ≠ g) w w':=by
  have hb0:Below w.heap.size w ((w.alloc (.cells #[.int .u64 x.a,.int .u64 x.c] 153)).alloc (.cells #[.int .u64 y.a,.int .u64 y.c] 153)):=((Below.refl _ w).alloc (Nat.le_refl _) _).alloc (by simp) _
  have h0:LInv w I b g cap P V f x y 0 ((w.alloc (.cells #[.int .u64 x.a,.int .u64 x.c] 153)).alloc (.cells #[.int .u64 y.a,.int .u64 y.c] 153)):=⟨by rw [lnkP_zero];exact hM.below hI hb0,Kept.of_below hb0,Rf.blk_alloc _ (heap_alloc_new w _),by
      have:=heap_alloc_new (w.alloc (.cells #[.int .u64 x.a,.int .u64 x.c] 153)) (.cells #[.int .u64 y.a,.int .u64 y.c] 153)
      rw [show (w.alloc (.cells #[.int .u64 x.a,.int .u64 x.c] 153)).heap.size=w.heap.size + 1 by simp] at this
      exact this⟩
  have hbl:=lt_of_block hM.blk
  have hgl:g < w.heap.size:=(hM.row.lt g rfl).2
  have hbg:b ≠ g:=fun e=>hM.nb (by rw [e];rfl)
  have c0:=Rf.cell_blk h0.ma.blk 0 _ rfl
  have HI:Hid _:=h0
  clear h0
  go_enter Tryz.func145,Tryz.ntmps145
  go_wp2
  clear c0
  go_loopw [12] (fun vk wr=>∃ k:Nat,vk=.int .i64 k∧k≤P.length∧LInv w I b g cap P V f x y k wr) (fun vk _=>P.length - (intOf vk).toNat)
  case atStart=>exact ⟨0,rfl,Nat.zero_le _,HI.out⟩
  case round =>
    obtain ⟨k,rfl,hk,hL⟩:=hrel
    by_cases hlt:k < P.length
    · have hlt':(k:Int) < (P.length:Int):=by omega
      have hp:P[k]?=some (P[k]'hlt):=List.getElem?_eq_getElem _
      generalize P[k]'hlt=p at hp
      have x0:=Rf.cell_blk hL.hx 0 _ rfl
      have x1:=Rf.cell_blk hL.hx 1 _ rfl
      have hH:=bhas_any wr x k (by omega)
      have hks:=hL.kept.size
      have hwl:w.heap.size + 1 < wr.heap.size:=lt_of_block hL.hy
      cases hxk:x.has k with
      | false =>
        rw [hxk] at hH
        go_wp2_with (go_at_call 106;refine hH.mono ?_;rintro e w1 ⟨rfl,hb1⟩)
        refine ⟨⟨k + 1,by go_num,by omega,?_⟩,by simp [intOf];omega⟩
        have h2:=hL.below hI hb1
        exact ⟨by rw [lnkP_not x y P k hxk];exact h2.ma,h2.kept,h2.hx,h2.hy⟩
      | true =>
        rw [hxk] at hH
        have HX:Hid _:=hxk
        clear hxk
        go_wp2_with (go_at_call 106;refine hH.mono ?_;rintro e w1 ⟨rfl,hb1⟩;have hL1:LInv w I b g cap P V f x y k w1:=hL.below hI hb1)
        obtain ⟨m0,p4,p5,fr⟩:=hL1.ma.pl (lnkP_get x y P k p hp)
        have y0:w1.cell? ⟨w.heap.size + 1,0,none⟩=some (.int .u64 y.a):=Rf.cell_blk hL1.hy 0 _ rfl
        have y1:w1.cell? ⟨w.heap.size + 1,1,none⟩=some (.int .u64 y.c):=Rf.cell_blk hL1.hy 1 _ rfl
        have hw1:=hb1.size
        go_region_with (go_at_call 105;refine (bor_any _ p.be y).mono ?_;rintro e w2 ⟨rfl,hb2⟩;have hL2:LInv w I b g cap P V f x y k w2:=hL1.below hI ((Below.refl _ w1).drew.trans hb2);obtain ⟨n0,q4,q5,fr2⟩:=hL2.ma.pl (lnkP_get x y P k p hp))
        all_goals
          have HL:Hid _:=hL2.next hgl hp HX.out
          clear hL2 n0 q4 q5 fr2 m0 p4 p5 fr y0 y1 x0 x1
          go_wp2
          exact ⟨⟨k + 1,by go_num,by omega,HL.out⟩,by simp [intOf];omega⟩
    · have e:k=P.length:=by omega
      subst e
      have hlt':¬ (P.length:Int) < (P.length:Int):=by omega
      go_wp2
      first | go_ret2 | go_ret3 | go_returns
      exact ⟨rfl,hL.ma,hL.kept⟩
set_option maxRecDepth 100000 in
set_option maxHeartbeats 2000000 in
theorem link_none (w:World) (I:Nat→Prop) (b c:Nat) (a:Option Addr) (V:List Value) (f x y:PB) (hM:MaAt w I b (.slice a 0 c) [] V f) (hI:∀ k,I k→k < w.heap.size) :
    Calls Tryz.prog 145 #[pv b,x.val,y.val] w fun e w'=>e=.returned (.tuple #[])∧Below w.heap.size w w':=by
  have hb0:Below w.heap.size w ((w.alloc (.cells #[.int .u64 x.a,.int .u64 x.c] 153)).alloc (.cells #[.int .u64 y.a,.int .u64 y.c] 153)):=((Below.refl _ w).alloc (Nat.le_refl _) _).alloc (by simp) _
  have c0:=Rf.cell_blk (hM.below hI hb0).blk 0 (.slice a 0 c) rfl
  go_enter Tryz.func145,Tryz.ntmps145
  go_wp2
  go_loopw [12] (fun vk wr=>vk=.int .i64 0∧Hid (Below w.heap.size w wr)) (fun _ _=>0)
  case atStart=>exact ⟨rfl,hb0⟩
  case round =>
    obtain ⟨rfl,hr⟩:=hrel
    go_wp2
    first | go_ret2 | go_ret3 | go_returns
    exact ⟨rfl,hr.out⟩
theorem link_any (w:World) (I:Nat→Prop) (b:Nat) (v:Value) (P:List Pl) (V:List Value) (f x y:PB) (hM:MaAt w I b v P V f) (hI:∀ k,I k→k < w.heap.size) (hn:P.length≤100) :
    Calls Tryz.prog 145 #[pv b,x.val,y.val] w fun e w'=>e=.returned (.tuple #[])∧MaAt w' I b v (lnk x y P) V f∧Mv b w v w' v:=by
  by_cases h0:P.length=0
  · obtain ⟨va,vc,hve⟩:=Rf.own_len hM.row
    subst hve
    have hP:P=[]:=List.length_eq_zero_iff.1 h0
    subst hP
    refine (link_none w I b vc va V f x y hM hI).mono ?_
    rintro e w' ⟨h1,h2⟩
    exact ⟨h1,hM.below hI h2,Mv.of_below h2⟩
  · obtain ⟨g,cap,hv,_,_⟩:=hM.row.form (by omega)
    subst hv
    refine (link_some w I b g cap P V f x y hM hI hn).mono ?_
    rintro e w' ⟨h1,h2,h3⟩
    exact ⟨h1,h2,⟨h3.mono (fun k _ hp e=>hp.2 (by rw [e];rfl)),fun k hk=>.inl hk⟩⟩
end Pr
end Go.Proofs.YtpgcidpghmoibaaGreatDoor

namespace Go.Proofs.YtpgcidpghmoibaaGreatDoor
namespace Pr
open Go.RowKit
open Rf (Kept Lies)
open G (PNode)
set_option maxRecDepth 100000 in
set_option maxHeartbeats 2000000 in
theorem addseq_any (I:Nat→Prop) (b:Nat) (T:List PNode) (B ps:List Nat) (hIH:∀ p ∈ ps,AddAt I b T B p) (hpl:∀ p ∈ ps,p < T.length) (hT:G.WF T) (w:World) (v:Value) (P:List Pl) (V:List Value) (f:PB) (vp:Value)
    (hM:MaAt w I b v P V f) (hTr:Tree w I T B) (hp:Parts w I B ps vp) (hn:ps.length≤100000) (hsz:P.length + (ps.flatMap (G.lv T)).length≤100) :
    Calls Tryz.prog 131 #[pv b,vp] w fun e w'=>APost I b f w v (foldS T ps (P,⟨PB.zero,PB.zero,true⟩)) e w':=by
  obtain ⟨va,vc,hve⟩:=Rf.own_len hp.row
  subst hve
  have HI:Hid (Hd w I b v P V f ⟨PB.zero,PB.zero,true⟩ v _):=Hd.start hM hTr.lt ⟨PB.zero,PB.zero,true⟩
  go_enter Tryz.func131,Tryz.ntmps131
  go_wp2
  go_loopw [7,8,12] (fun _ _ vk wr=>∃ (k:Nat) (v':Value) (V':List Value),vk=.int .i64 k∧k≤ps.length∧Hd w I b v (foldS T (ps.take k) (P,⟨PB.zero,PB.zero,true⟩)).1 V' f (foldS T (ps.take k) (P,⟨PB.zero,PB.zero,true⟩)).2 v' wr) (fun _ _ vk _=>ps.length - (intOf vk).toNat)
  case atStart=>exact ⟨0,v,V,rfl,Nat.zero_le _,HI.out⟩
  case round =>
    obtain ⟨k,v',V',rfl,hk,hH⟩:=hrel
    by_cases hlt:k < ps.length
    · have hlt':(k:Int) < (ps.length:Int):=by omega
      have hx:ps[k]?=some (ps[k]'hlt):=List.getElem?_eq_getElem _
      generalize ps[k]'hlt=p at hx
      have hpm:=List.mem_of_getElem? hx
      have hfl:=foldS_len hT (ps.take k) (fun q hq=>hpl q (List.mem_of_mem_take hq)) (P,⟨PB.zero,PB.zero,true⟩)
      have hft:=flat_take (T:=T) hx
      have hS:foldS T (ps.take (k + 1)) (P,⟨PB.zero,PB.zero,true⟩)=seqStep (foldS T (ps.take k) (P,⟨PB.zero,PB.zero,true⟩)) (adN T p (foldS T (ps.take k) (P,⟨PB.zero,PB.zero,true⟩)).1):=by
        rw [take_snoc hx,foldS_snoc]
      have HS:Hid _:=hS
      clear hS
      generalize foldS T (ps.take k) (P,⟨PB.zero,PB.zero,true⟩)=s at *
      obtain ⟨SP,sf,sl,se⟩:=s
      simp only at hfl hH
      have hP:=hp.mv hH.mv hTr.lt hM.ib hM.iv
      obtain ⟨g,cap,hv,_,_⟩:=hP.row.form (by omega)
      simp only [Value.slice.injEq] at hv
      obtain ⟨rfl,_,rfl⟩:=hv
      have c0:wr.cell? ⟨g,k,none⟩=some (.pointer (some ⟨bl B p,0,none⟩)):=own_cell' hP.row k (by simp [ptrs,hx,pv])
      have hA:=hIH p hpm wr v' SP V' f hH.ma (hH.mv.tree hTr hM.ib hM.iv) (by omega)
      unfold APost at hA
      have hrl:(adN T p SP).1.length=SP.length + (G.lv T p).length:=adN_len hT p (hpl p hpm) SP
      generalize adN T p SP=r at *
      obtain ⟨RP,rf,rl,re⟩:=r
      simp only at hA hrl
      have hlen:RP.length≤100:=by omega
      clear hIH hfl hft hrl
      cases se with
      | false =>
        cases re with
        | false =>
          go_wp2_with (first
            | (go_at_call 145
               refine hLk.mono ?_
               rintro e w2 ⟨rfl,hM2,hv2⟩
               have M2:=M1.turned hM2 hv2
               obtain ⟨b0,b1,b2,b3,b4,bf⟩:=M2.hd.e5.reads
               obtain ⟨h0,h1,h2,h3,h4,hf⟩:=M2.e8.reads
               have M5:=M2.l5 rl
               have e5:=M5.hd.e5.reads
               unfold setL at e5
               obtain ⟨s0,s1,s2,s3,s4,sff⟩:=e5
               have e8:=M5.e8.reads
               unfold setL at e8
               obtain ⟨t0,t1,t2,t3,t4,tf⟩:=e8)
            | (go_at_call 104
               refine hA.mono ?_
               rintro e w1 ⟨rfl,v1,V1,hM1,hv1⟩
               have M1:=hH.add hM1 hv1 ⟨rf,rl,false⟩
               obtain ⟨a0,a1,a2,a3,a4,af⟩:=M1.hd.e5.reads
               have hLk:=link_any _ I b v1 RP V1 f sl rf M1.hd.ma (fun j hj=>Nat.lt_of_lt_of_le (M1.hd.hI j hj) M1.hd.mv.kept.size) hlen))
          refine ⟨⟨k + 1,v1,V1,by go_num,by omega,?_⟩,by simp [intOf];omega⟩
          rw [HS.out]
          exact (M5.e5' _).hd
        | true =>
          go_wp2_with (first
            | (go_at_call 105
               have MG:=M2
               refine (bor_any _ rl sl).mono ?_
               rintro e w4 ⟨rfl,hb4⟩
               have M4:=M2.below hb4
               obtain ⟨j0,j1,j2,j3,j4,jf⟩:=M4.hd.e5.reads
               obtain ⟨k0,k1,k2,k3,k4,kf⟩:=M4.e8.reads
               have M4L:=M4.l8 (rl.or sl)
               have e5:=M4L.hd.e5.reads
               unfold setL at e5
               obtain ⟨p0,p1,p2,p3,p4,pf⟩:=e5
               have e8:=M4L.e8.reads
               unfold setL at e8
               obtain ⟨q0,q1,q2,q3,q4,qf⟩:=e8
               have M5:=M4L.l5 (rl.or sl)
               have e5:=M5.hd.e5.reads
               unfold setL at e5
               obtain ⟨s0,s1,s2,s3,s4,sff⟩:=e5
               have e8:=M5.e8.reads
               unfold setL at e8
               obtain ⟨t0,t1,t2,t3,t4,tf⟩:=e8)
            | (go_at_call 145
               refine hLk.mono ?_
               rintro e w2 ⟨rfl,hM2,hv2⟩
               have M2:=M1.turned hM2 hv2
               obtain ⟨b0,b1,b2,b3,b4,bf⟩:=M2.hd.e5.reads
               obtain ⟨h0,h1,h2,h3,h4,hf⟩:=M2.e8.reads)
            | (go_at_call 104
               refine hA.mono ?_
               rintro e w1 ⟨rfl,v1,V1,hM1,hv1⟩
               have M1:=hH.add hM1 hv1 ⟨rf,rl,true⟩
               obtain ⟨a0,a1,a2,a3,a4,af⟩:=M1.hd.e5.reads
               have hLk:=link_any _ I b v1 RP V1 f sl rf M1.hd.ma (fun j hj=>Nat.lt_of_lt_of_le (M1.hd.hI j hj) M1.hd.mv.kept.size) hlen))
          refine ⟨⟨k + 1,v1,V1,by go_num,by omega,?_⟩,by simp [intOf];omega⟩
          rw [HS.out]
          exact (M5.e5' _).hd
      | true =>
        cases re with
        | false =>
          go_wp2_with (first
            | (go_at_call 105
               refine (bor_any _ sf rf).mono ?_
               rintro e w3 ⟨rfl,hb3⟩
               have M3:=M2.below hb3
               obtain ⟨i0,i1,i2,i3,i4,iff⟩:=M3.hd.e5.reads
               have M3F:=M3.f5 (sf.or rf)
               have e5:=M3F.hd.e5.reads
               unfold setF at e5
               obtain ⟨f0,f1,f2,f3,f4,ff⟩:=e5
               have e8:=M3F.e8.reads
               unfold setF at e8
               obtain ⟨g0,g1,g2,g3,g4,gf⟩:=e8
               have M5:=M3F.l5 rl
               have e5:=M5.hd.e5.reads
               unfold setL setF at e5
               obtain ⟨s0,s1,s2,s3,s4,sff⟩:=e5
               have e8:=M5.e8.reads
               unfold setL setF at e8
               obtain ⟨t0,t1,t2,t3,t4,tf⟩:=e8)
            | (go_at_call 145
               refine hLk.mono ?_
               rintro e w2 ⟨rfl,hM2,hv2⟩
               have M2:=M1.turned hM2 hv2
               obtain ⟨b0,b1,b2,b3,b4,bf⟩:=M2.hd.e5.reads
               obtain ⟨h0,h1,h2,h3,h4,hf⟩:=M2.e8.reads)
            | (go_at_call 104
               refine hA.mono ?_
               rintro e w1 ⟨rfl,v1,V1,hM1,hv1⟩
               have M1:=hH.add hM1 hv1 ⟨rf,rl,false⟩
               obtain ⟨a0,a1,a2,a3,a4,af⟩:=M1.hd.e5.reads
               have hLk:=link_any _ I b v1 RP V1 f sl rf M1.hd.ma (fun j hj=>Nat.lt_of_lt_of_le (M1.hd.hI j hj) M1.hd.mv.kept.size) hlen))
          refine ⟨⟨k + 1,v1,V1,by go_num,by omega,?_⟩,by simp [intOf];omega⟩
          rw [HS.out]
          exact (M5.e5' _).hd
        | true =>
          go_wp2_with (first
            | (go_at_call 105
               have MG:=M3F
               refine (bor_any _ rl sl).mono ?_
               rintro e w4 ⟨rfl,hb4⟩
               have M4:=M3F.below hb4
               obtain ⟨j0,j1,j2,j3,j4,jf⟩:=M4.hd.e5.reads
               obtain ⟨k0,k1,k2,k3,k4,kf⟩:=M4.e8.reads
               have M4L:=M4.l8 (rl.or sl)
               have e5:=M4L.hd.e5.reads
               unfold setL at e5
               obtain ⟨p0,p1,p2,p3,p4,pf⟩:=e5
               have e8:=M4L.e8.reads
               unfold setL at e8
               obtain ⟨q0,q1,q2,q3,q4,qf⟩:=e8
               have M5:=M4L.l5 (rl.or sl)
               have e5:=M5.hd.e5.reads
               unfold setL at e5
               obtain ⟨s0,s1,s2,s3,s4,sff⟩:=e5
               have e8:=M5.e8.reads
               unfold setL at e8
               obtain ⟨t0,t1,t2,t3,t4,tf⟩:=e8)
            | (go_at_call 105
               refine (bor_any _ sf rf).mono ?_
               rintro e w3 ⟨rfl,hb3⟩
               have M3:=M2.below hb3
               obtain ⟨i0,i1,i2,i3,i4,iff⟩:=M3.hd.e5.reads
               have M3F:=M3.f5 (sf.or rf)
               have e5:=M3F.hd.e5.reads
               unfold setF at e5
               obtain ⟨f0,f1,f2,f3,f4,ff⟩:=e5
               have e8:=M3F.e8.reads
               unfold setF at e8
               obtain ⟨g0,g1,g2,g3,g4,gf⟩:=e8)
            | (go_at_call 145
               refine hLk.mono ?_
               rintro e w2 ⟨rfl,hM2,hv2⟩
               have M2:=M1.turned hM2 hv2
               obtain ⟨b0,b1,b2,b3,b4,bf⟩:=M2.hd.e5.reads
               obtain ⟨h0,h1,h2,h3,h4,hf⟩:=M2.e8.reads)
            | (go_at_call 104
               refine hA.mono ?_
               rintro e w1 ⟨rfl,v1,V1,hM1,hv1⟩
               have M1:=hH.add hM1 hv1 ⟨rf,rl,true⟩
               obtain ⟨a0,a1,a2,a3,a4,af⟩:=M1.hd.e5.reads
               have hLk:=link_any _ I b v1 RP V1 f sl rf M1.hd.ma (fun j hj=>Nat.lt_of_lt_of_le (M1.hd.hI j hj) M1.hd.mv.kept.size) hlen))
          refine ⟨⟨k + 1,v1,V1,by go_num,by omega,?_⟩,by simp [intOf];omega⟩
          rw [HS.out]
          exact (M5.e5' _).hd
    · have e:k=ps.length:=by omega
      subst e
      have hlt':¬ (ps.length:Int) < (ps.length:Int):=by omega
      rw [List.take_length] at hH
      obtain ⟨s,hs⟩:∃ s,foldS T ps (P,⟨PB.zero,PB.zero,true⟩)=s:=⟨_,rfl⟩
      rw [hs] at hH
      obtain ⟨SP,sf,sl,se⟩:=s
      have HE:Hid _:=hs
      clear hs
      simp only at hH
      obtain ⟨a0,a1,a2,a3,a4,af⟩:=hH.e5.reads
      have e4:=hH.e4.reads
      unfold En.zero PB.zero at e4
      obtain ⟨z0,z1,z2,z3,z4,zf⟩:=e4
      go_wp2
      change bodyPost _ _ _ _ _ (setEn wr w.heap.size ⟨sf,sl,se⟩)
      obtain ⟨d1,d2,d3⟩:=hH.done
      generalize setEn wr w.heap.size ⟨sf,sl,se⟩=w6 at *
      obtain ⟨R0,R1,R2,R3,R4,_⟩:=d1.reads
      refine bodyPost_ret (by simp [results,Tryz.results131,go_sem,R0,R1,R2,R3,R4];try rfl) rfl ?_
      unfold APost
      rw [HE.out]
      exact ⟨rfl,v',V',d2,d3⟩
end Pr
end Go.Proofs.YtpgcidpghmoibaaGreatDoor
