/-
  THE PROGRAM's MACHINE
  THE PROGRAM's MACHINE
  THE PROGRAM's READER with its trees and its names
  THE PROGRAM's READER
-/
import Derived.Test.YtpgcidpghmoibaaGreatDoorK34
import Derived.Deep.Cut
import Derived.Deep.CutRange
import Derived.Test.YtpgcidpghmoibaaGreatDoorK07
import Derived.Test.YtpgcidpghmoibaaGreatDoorK33
import Derived.Maps.Own
import Derived.Maps.OwnOps
import Derived.Maps.OwnSet
namespace Go.Proofs.YtpgcidpghmoibaaGreatDoor
namespace Pr
open Go.RowKit
open Rf (Kept Lies)
open G (PNode)
def Pl.mark (p:Pl) (rule:Nat) (b:Bool):Pl:=⟨p.x,rule,b,p.be⟩
def mrk (k0 k rule:Nat) (l:PB) (P:List Pl):List Pl:=P.mapIdx fun i p=>if decide (k0≤i) && decide (i < k) then p.mark rule (l.has i) else p
theorem mrk_len (k0 k rule:Nat) (l:PB) (P:List Pl):(mrk k0 k rule l P).length=P.length:=by simp [mrk]
theorem mrk_none (k0 rule:Nat) (l:PB) (P:List Pl):mrk k0 k0 rule l P=P:=by
  apply List.ext_getElem?
  intro i
  have:(decide (k0≤i) && decide (i < k0))=false:=by
    rw [Bool.and_eq_false_iff,decide_eq_false_iff_not,decide_eq_false_iff_not]
    omega
  simp only [mrk,List.getElem?_mapIdx,this,Bool.false_eq_true,if_false]
  simp
theorem mrk_get (k0 k rule:Nat) (l:PB) (P:List Pl) (p:Pl) (h:P[k]?=some p):(mrk k0 k rule l P)[k]?=some p:=by
  simp [mrk,h]
theorem mrk_next (k0 k rule:Nat) (l:PB) (P:List Pl) (p:Pl) (hk:k0≤k) (h:P[k]?=some p):mrk k0 (k + 1) rule l P=(mrk k0 k rule l P).set k (p.mark rule (l.has k)):=by
  have hkl:k < P.length:=(List.getElem?_eq_some_iff.1 h).1
  apply List.ext_getElem?
  intro i
  by_cases e:k=i
  · subst e
    rw [List.getElem?_set_self (by rw [mrk_len];exact hkl)]
    simp [mrk,h,hk]
  · rw [List.getElem?_set_ne e]
    simp only [mrk,List.getElem?_mapIdx]
    have:decide (i < k + 1)=decide (i < k):=by rw [decide_eq_decide];omega
    rw [this]
theorem mrk_xs (k0 k rule:Nat) (l:PB) (P:List Pl):xs (mrk k0 k rule l P)=xs P:=by
  unfold xs mrk
  apply List.ext_getElem?
  intro i
  simp only [List.getElem?_map,List.getElem?_mapIdx]
  cases P[i]? with
  | none=>rfl
  | some p =>
    simp only [Option.map_some]
    split <;> rfl
def ruleStep (T:List PNode) (rule n:Nat) (s:List Pl × PB):List Pl × PB:=
  (mrk s.1.length (adN T n s.1).1.length rule (adN T n s.1).2.l (adN T n s.1).1,s.2.or (adN T n s.1).2.f)
theorem ruleStep_xs {T:List PNode} (hT:G.WF T) (rule n:Nat) (hn:n < T.length) (s:List Pl × PB):xs (ruleStep T rule n s).1=xs s.1 ++ G.lv T n:=by
  unfold ruleStep
  rw [mrk_xs,adN_xs hT n hn]
structure Ru (w0:World) (I:Nat→Prop) (b:Nat) (v0:Value) (k7 g n cap:Nat) (P:List Pl) (V:List Value) (f:PB) (en:En) (w:World):Prop where
  ma:MaAt w I b (.slice (some ⟨g,0,none⟩) n cap) P V f
  mv:Mv b w0 v0 w (.slice (some ⟨g,0,none⟩) n cap)
  e7:EnAt w k7 en
  n7:w0.heap.size≤k7
  ng:g ≠ k7
  lt:b < w0.heap.size
  hI:∀ k,I k→k < w0.heap.size
theorem Ru.below {w0:World} {I:Nat→Prop} {b:Nat} {v0:Value} {k7 g n cap:Nat} {P:List Pl} {V:List Value} {f:PB} {en:En} {w w2:World} (h:Ru w0 I b v0 k7 g n cap P V f en w) (hb:Below w.heap.size w w2):Ru w0 I b v0 k7 g n cap P V f en w2 where
  ma:=h.ma.below (fun k hk=>Nat.lt_of_lt_of_le (h.hI k hk) h.mv.kept.size) hb
  mv:=h.mv.trans (Mv.of_below hb)
  e7:=(hb.block _ (lt_of_block h.e7)).trans h.e7
  n7:=h.n7
  ng:=h.ng
  lt:=h.lt
  hI:=h.hI
theorem Ru.start {w w1:World} {I:Nat→Prop} {b:Nat} {v:Value} {g n cap:Nat} {P P1:List Pl} {V V1:List Value} {f:PB} (hM:MaAt w I b v P V f) (hI:∀ k,I k→k < w.heap.size) (hM1:MaAt w1 I b (.slice (some ⟨g,0,none⟩) n cap) P1 V1 f) (hv:Mv b w v w1 (.slice (some ⟨g,0,none⟩) n cap)) (x:En) :
    Ru w I b v w1.heap.size g n cap P1 V1 f x (w1.alloc (.cells #[.int .u64 x.f.a,.int .u64 x.f.c,.int .u64 x.l.a,.int .u64 x.l.c,.bool x.e] 184)):=by
  have hb:Below w1.heap.size w1 (w1.alloc (.cells #[.int .u64 x.f.a,.int .u64 x.f.c,.int .u64 x.l.a,.int .u64 x.l.c,.bool x.e] 184)):=(Below.refl _ _).alloc (Nat.le_refl _) _
  have hs:=hv.kept.size
  have hg:=(hM1.row.lt g rfl).2
  exact { ma:=hM1.below (fun k hk=>by have:=hI k hk;omega) hb,mv:=hv.trans (Mv.of_below hb),e7:=heap_alloc_new w1 _,n7:=by omega,ng:=by omega,lt:=lt_of_block hM.blk,hI:=hI }
theorem Ru.first {w0:World} {I:Nat→Prop} {b:Nat} {v0:Value} {k7 g n cap:Nat} {P:List Pl} {V:List Value} {f:PB} {en:En} {w:World} (h:Ru w0 I b v0 k7 g n cap P V f en w) (f':PB):Ru w0 I b v0 k7 g n cap P V f' en ((w.setCell ⟨b,1,none⟩ (.int .u64 f'.a)).setCell ⟨b,2,none⟩ (.int .u64 f'.c)):=by
  have hlt:=h.lt
  have h7:=h.n7
  exact { ma:=h.ma.first f',mv:=⟨(h.mv.kept.setCell (fun hn=>hn.1 rfl) _).setCell (fun hn=>hn.1 rfl) _,h.mv.lies⟩,e7:=(Rf.blk_ne _ (by omega)).trans ((Rf.blk_ne _ (by omega)).trans h.e7),n7:=h.n7,ng:=h.ng,lt:=h.lt,hI:=h.hI }
theorem Ru.put {w0:World} {I:Nat→Prop} {b:Nat} {v0:Value} {k7 g n cap:Nat} {P:List Pl} {V:List Value} {f:PB} {en:En} {w:World} (h:Ru w0 I b v0 k7 g n cap P V f en w) (hn:n=P.length) (k:Nat) (p p':Pl) (hp:P[k]?=some p) (o:Nat) (ho:o < 6) (u:Value) (hx:p'.x=p.x) (hc:∀ v,pcell p' v=(pcell p v).set o u) :
    Ru w0 I b v0 k7 g n cap (P.set k p') V f en (w.setCell ⟨g,k * 6 + o,none⟩ u):=by
  subst hn
  have h1:=h.ma.put k p p' hp o ho u hx hc
  rw [List.length_set] at h1
  refine { ma:=h1,mv:=⟨?_,h.mv.lies⟩,e7:=(Rf.blk_ne _ (fun e=>h.ng e.symm)).trans h.e7,n7:=h.n7,ng:=h.ng,lt:=h.lt,hI:=h.hI }
  rcases h.mv.lies g rfl with e | e
  · exact h.mv.kept.setCell (fun hn=>hn.2 e) _
  · exact h.mv.kept.setNew e _
structure RuReads (w:World) (b g n cap k:Nat) (f:PB) (p:Pl):Prop where
  m0:w.cell? ⟨b,0,none⟩=some (.slice (some ⟨g,0,none⟩) n cap)
  p2:w.cell? ⟨g,k * 6 + 2,none⟩=some (.int .i64 (p.rule:Int))
  p3:w.cell? ⟨g,k * 6 + 3,none⟩=some (.bool p.last)
  fr:∀ o,w.frozen? ⟨g,o,none⟩=false
theorem MaAt.pl2 {w:World} {I:Nat→Prop} {b g n cap:Nat} {P:List Pl} {V:List Value} {f:PB} (h:MaAt w I b (.slice (some ⟨g,0,none⟩) n cap) P V f) {k:Nat} {p:Pl} (hp:P[k]?=some p):RuReads w b g n cap k f p:=by
  have hkl:k < P.length:=(List.getElem?_eq_some_iff.1 hp).1
  have hv:V[k]?=some (V[k]'(by rw [h.len];exact hkl)):=List.getElem?_eq_getElem _
  have hm0:=Rf.cell_blk h.blk 0 _ rfl
  have hrow:=h.row
  obtain ⟨a,c,he⟩:=Rf.own_len hrow
  simp only [Value.slice.injEq] at he
  obtain ⟨_,he,_⟩:=he
  subst he
  exact ⟨hm0,own_cell' hrow (k * 6 + 2) ((pcells_get hp hv 2 (by omega)).trans rfl),own_cell' hrow (k * 6 + 3) ((pcells_get hp hv 3 (by omega)).trans rfl),fun o=>hrow.frozenAt o⟩
set_option maxRecDepth 100000 in
set_option maxHeartbeats 4000000 in
theorem addrule_any (I:Nat→Prop) (b:Nat) (T:List PNode) (B:List Nat) (hT:G.WF T) (n:Nat) (hnl:n < T.length) (rule:Nat) (w:World) (v:Value) (P:List Pl) (V:List Value) (f:PB)
    (hM:MaAt w I b v P V f) (hTr:Tree w I T B) (hsz:P.length + (G.lv T n).length≤100) :
    Calls Tryz.prog 79 #[pv b,.int .i64 (rule:Int),pv (bl B n)] w fun e w'=>e=.returned (.tuple #[])∧∃ v' V',MaAt w' I b v' (ruleStep T rule n (P,f)).1 V' (ruleStep T rule n (P,f)).2∧Mv b w v w' v':=by
  have hA:=add_any I b T B hT n hnl w v P V f hM hTr hsz
  have hrl:(adN T n P).1.length=P.length + (G.lv T n).length:=adN_len hT n hnl P
  have hpos:1≤(G.lv T n).length:=G.pl_pos hT n hnl
  unfold APost at hA
  unfold ruleStep
  simp only
  generalize adN T n P=r at *
  obtain ⟨RP,rf,rl,re⟩:=r
  simp only at hA hrl ⊢
  obtain ⟨va,vc,hve⟩:=Rf.own_len hM.row
  subst hve
  have m0:=Rf.cell_blk hM.blk 0 (.slice va P.length vc) rfl
  have hlen:RP.length≤100:=by omega
  go_enter Tryz.func79,Tryz.ntmps79
  go_upto_region 2 with (go_at_call 104
                         refine hA.mono ?_
                         rintro e w1 ⟨rfl,v1,V1,hM1,hv1⟩
                         obtain ⟨g,cap,hv,_,_⟩:=hM1.row.form (by omega)
                         subst hv
                         have M1:=Ru.start hM hTr.lt hM1 hv1 ⟨rf,rl,re⟩
                         have f1:=Rf.cell_blk M1.ma.blk 1 (.int .u64 f.a) rfl
                         have f2:=Rf.cell_blk M1.ma.blk 2 (.int .u64 f.c) rfl
                         have f3:=fun o=>Rf.free_blk M1.ma.blk o)
  go_cut [] from 17 to 26 (fun wx=>Ru w I b (.slice va P.length vc) w1.heap.size g RP.length cap RP V1 (f.or rf) ⟨rf,rl,re⟩ wx)
  case first =>
    go_region_with (go_at_call 105;refine (bor_any _ f rf).mono ?_;rintro e w2 ⟨rfl,hb2⟩;have M2:=M1.below ((Below.refl _ _).drew.trans hb2);have q1:=Rf.cell_blk M2.ma.blk 1 (.int .u64 f.a) rfl;have q2:=Rf.cell_blk M2.ma.blk 2 (.int .u64 f.c) rfl;have q3:=fun o=>Rf.free_blk M2.ma.blk o)
    all_goals (try go_wp2_with fail)
    all_goals go_meet
    all_goals exact M2.first (f.or rf)
  case rest =>
    have m0:=Rf.cell_blk hcut.ma.blk 0 (.slice (some ⟨g,0,none⟩) RP.length cap) rfl
    generalize w1.heap.size=k7 at *
    have HC:Hid _:=hcut
    clear hcut M1 f1 f2 f3
    go_wp2
    clear m0
    go_loopw [8] (fun vk wr=>∃ k:Nat,vk=.int .i64 k∧P.length≤k∧k≤RP.length∧Ru w I b (.slice va P.length vc) k7 g RP.length cap (mrk P.length k rule rl RP) V1 (f.or rf) ⟨rf,rl,re⟩ wr) (fun vk _=>RP.length - (intOf vk).toNat)
    case atStart=>exact ⟨P.length,rfl,Nat.le_refl _,by omega,by rw [mrk_none];exact HC.out⟩
    case round =>
      obtain ⟨k,rfl,hk0,hk,hL⟩:=hrel
      have m0:=Rf.cell_blk hL.ma.blk 0 (.slice (some ⟨g,0,none⟩) RP.length cap) rfl
      by_cases hlt:k < RP.length
      · have hlt':(k:Int) < (RP.length:Int):=by omega
        have hp:RP[k]?=some (RP[k]'hlt):=List.getElem?_eq_getElem _
        generalize RP[k]'hlt=p at hp
        obtain ⟨_,p2,p3,fr⟩:=hL.ma.pl2 (mrk_get P.length k rule rl RP p hp)
        have hl0:=mrk_len P.length k rule rl RP
        have L6:=hL.put hl0.symm k p ⟨p.x,rule,p.last,p.be⟩ (mrk_get P.length k rule rl RP p hp) 2 (by omega) (.int .i64 (rule:Int)) rfl (fun v=>rfl)
        have hp6:((mrk P.length k rule rl RP).set k ⟨p.x,rule,p.last,p.be⟩)[k]?=some ⟨p.x,rule,p.last,p.be⟩:=List.getElem?_set_self (by rw [hl0];exact hlt)
        have hN:mrk P.length (k + 1) rule rl RP=((mrk P.length k rule rl RP).set k ⟨p.x,rule,p.last,p.be⟩).set k (p.mark rule (rl.has k)):=by rw [List.set_set,mrk_next P.length k rule rl RP p hk0 hp]
        have HN:Hid _:=hN
        clear hN
        go_upto_region 7 with fail
        clear m0 p2 p3 fr
        generalize wr.setCell ⟨g,k * 6 + 2,none⟩ (.int .i64 (rule:Int))=w6 at *
        obtain ⟨n0,q2,q3,fr⟩:=L6.ma.pl2 hp6
        obtain ⟨z0,z1,z2,z3,z4,zf⟩:=L6.e7.reads
        go_region_with (go_at_call 106;refine (bhas_any _ rl k (by omega)).mono ?_;rintro e w7 ⟨rfl,hb7⟩;have L7:=L6.below ((Below.refl _ _).drew.trans hb7);obtain ⟨n1,s2,s3,fr2⟩:=L7.ma.pl2 hp6)
        all_goals
          have L8:=L7.put (by rw [List.length_set];exact hl0.symm) k ⟨p.x,rule,p.last,p.be⟩ (p.mark rule (rl.has k)) hp6 3 (by omega) (.bool (rl.has k)) rfl (fun v=>rfl)
          rw [← HN.out] at L8
          have HL:Hid _:=L8
          clear L8 n0 q2 q3 fr z0 z1 z2 z3 z4 zf n1 s2 s3 fr2
          go_wp2
          exact ⟨⟨k + 1,by go_num,by omega,by omega,HL.out⟩,by simp [intOf];omega⟩
      · have e:k=RP.length:=by omega
        subst e
        have hlt':¬ (RP.length:Int) < (RP.length:Int):=by omega
        go_wp2
        first | go_ret2 | go_ret3 | go_returns
        refine ⟨rfl,_,⟨V1,?_⟩,hL.mv⟩
        rw [← hrl]
        exact hL.ma
end Pr
end Go.Proofs.YtpgcidpghmoibaaGreatDoor

namespace Go.Proofs.YtpgcidpghmoibaaGreatDoor
namespace Pr
open Go.RowKit
open Rf (Kept Lies)
open G (PNode)
def machN (T:List PNode) (Q:List Nat):Nat→List Pl × PB
  | 0=>([],PB.zero)
  | k + 1=>ruleStep T k (Q.getD k 0) (machN T Q k)
theorem machN_xs {T:List PNode} (hT:G.WF T) {Q:List Nat} (hQ:∀ q ∈ Q,q < T.length):∀ k,k≤Q.length→xs (machN T Q k).1=(Q.take k).flatMap (G.lv T)
  | 0,_=>by simp [machN,xs]
  | k + 1,hk=>by
    have ih:=machN_xs hT hQ k (by omega)
    have hx:Q[k]?=some (Q[k]'(by omega)):=List.getElem?_eq_getElem _
    have hg:Q.getD k 0=Q[k]'(by omega):=by simp [List.getD,hx]
    rw [machN,ruleStep_xs hT k _ (by rw [hg];exact hQ _ (List.getElem_mem _)),ih,hg,take_snoc hx]
    simp only [List.flatMap_append,List.flatMap_cons,List.flatMap_nil,List.append_nil]
theorem machN_len {T:List PNode} (hT:G.WF T) {Q:List Nat} (hQ:∀ q ∈ Q,q < T.length) (k:Nat) (hk:k≤Q.length):(machN T Q k).1.length=((Q.take k).flatMap (G.lv T)).length:=by
  rw [← xs_len,machN_xs hT hQ k hk]
set_option maxRecDepth 100000 in
set_option maxHeartbeats 2000000 in
theorem new_any (w:World) (I:Nat→Prop) (T:List PNode) (B Q:List Nat) (vR:Value) (hT:G.WF T) (hTr:Tree w I T B) (hrow:w.ownsRow 0 143 1 vR Q.length (ptrs B Q)) (hQ:∀ q ∈ Q,q < T.length) (hn:Q.length≤100000) (hsz:(Q.flatMap (G.lv T)).length≤100) :
    Calls Tryz.prog 52 #[vR] w fun e w'=>e=.returned (pv w.heap.size)∧(∃ v V,MaAt w' I w.heap.size v (machN T Q Q.length).1 V (machN T Q Q.length).2)∧Below w.heap.size w w':=by
  obtain ⟨va,vc,hve⟩:=Rf.own_len hrow
  subst hve
  have hb0:Below w.heap.size w (w.alloc (.cells #[.slice none 0 0,.int .u64 0,.int .u64 0] 155)):=(Below.refl _ w).alloc (Nat.le_refl _) _
  have nn:∀ k,(Value.slice none 0 0).ownBlock ≠ some k:=fun k e=>by simp [Value.ownBlock] at e
  have hM0:MaAt (w.alloc (.cells #[.slice none 0 0,.int .u64 0,.int .u64 0] 155)) I w.heap.size (.slice none 0 0) [] [] PB.zero:={ blk:=heap_alloc_new w _,len:=rfl,row:=World.ownsRow_nil _ _ _ _,sets:=fun k p u hp=>by simp at hp,nb:=nn _,ib:=fun h=>by have:=hTr.lt _ h;omega,iv:=fun k e=>absurd e (nn k) }
  have HM0:Hid _:=hM0
  go_enter Tryz.func52,Tryz.ntmps52
  go_wp2
  go_loopw [4,5,10] (fun _ _ vk wr=>∃ (k:Nat) (v:Value) (V:List Value),vk=.int .i64 k∧k≤Q.length∧MaAt wr I w.heap.size v (machN T Q k).1 V (machN T Q k).2∧Mv w.heap.size (w.alloc (.cells #[.slice none 0 0,.int .u64 0,.int .u64 0] 155)) (.slice none 0 0) wr v) (fun _ _ vk _=>Q.length - (intOf vk).toNat)
  case atStart=>exact ⟨0,_,_,rfl,Nat.zero_le _,HM0.out,Mv.refl _ _ _⟩
  case round =>
    obtain ⟨k,v,V,rfl,hk,hM,hv⟩:=hrel
    have hbw:Below w.heap.size w wr:=⟨hv.kept.os,hv.kept.tape,hv.kept.output,by have:=hv.kept.size;simp at this;omega,fun j hj=>(hv.kept.block j (by simp;omega) ⟨by omega,nn j⟩).trans (hb0.block j hj)⟩
    by_cases hlt:k < Q.length
    · have hlt':(k:Int) < (Q.length:Int):=by omega
      have hx:Q[k]?=some (Q[k]'hlt):=List.getElem?_eq_getElem _
      have hg:Q.getD k 0=Q[k]'hlt:=by simp [List.getD,hx]
      generalize Q[k]'hlt=q at hx hg
      have hqm:=List.mem_of_getElem? hx
      have hrow1:=Rf.own_same (w':=wr) hrow (fun j e=>hbw.block j (hrow.lt j e).2)
      obtain ⟨g,cap,hve,_,_⟩:=hrow1.form (by omega)
      simp only [Value.slice.injEq] at hve
      obtain ⟨rfl,_,rfl⟩:=hve
      have c0:wr.cell? ⟨g,k,none⟩=some (.pointer (some ⟨bl B q,0,none⟩)):=own_cell' hrow1 k (by simp [ptrs,hx,pv])
      have hml:=machN_len hT hQ k hk
      have hft:=flat_take (T:=T) hx
      have hA:=addrule_any I w.heap.size T B hT q (hQ q hqm) k wr v (machN T Q k).1 V (machN T Q k).2 hM (hTr.below hbw) (by omega)
      have hS:machN T Q (k + 1)=ruleStep T k q ((machN T Q k).1,(machN T Q k).2):=by rw [machN,hg]
      rw [← hS] at hA
      have HX:Hid _:=And.intro hM (And.intro hv hbw)
      clear hM hS hrow1 hml hft hg
      go_wp2_with (go_at_call 79;refine hA.mono ?_;rintro e w1 ⟨rfl,v1,V1,hM1,hv1⟩)
      exact ⟨⟨k + 1,v1,V1,by go_num,by omega,hM1,hv.trans hv1⟩,by simp [intOf];omega⟩
    · have e:k=Q.length:=by omega
      subst e
      have hlt':¬ (Q.length:Int) < (Q.length:Int):=by omega
      have HX:Hid _:=And.intro hM hbw
      clear hM hv
      go_wp2
      go_ret
      exact ⟨rfl,⟨v,V,HX.out.1⟩,HX.out.2⟩
end Pr
end Go.Proofs.YtpgcidpghmoibaaGreatDoor

namespace Go.Proofs.YtpgcidpghmoibaaGreatDoor
namespace Pr
open Go.RowKit Go.Maps
open Rf (Kept)
open G (PNode)
def heldR (v:Value):Option (DataW Value × List MemPlace):=some (.held v,[])
def envV (E:List (ByteArray × Nat)) (B:List Nat) (nm:ByteArray):Value:=match G.lookup E nm with
  | some p=>pv (bl B p)
  | none=>.pointer none
def EnvAt (w:World) (bm:Nat) (E:List (ByteArray × Nat)) (B:List Nat):Prop:=
  ∃ D n,w.ownsMap Tryz.prog 9 heldR bm n D∧n≤E.length∧∀ nm:ByteArray,nm.size≤maxLen→D.atKey (.string nm.data.toList) (.held (.pointer none))=.held (envV E B nm)
theorem EnvAt.kept {w w':World} {bm:Nat} {E:List (ByteArray × Nat)} {B:List Nat} (h:EnvAt w bm E B) (hk:w'.heap[bm]?=w.heap[bm]?):EnvAt w' bm E B:=by
  obtain ⟨D,n,⟨es,clock,h1,h2⟩,h3⟩:=h
  exact ⟨D,n,⟨es,clock,hk.trans h1,h2⟩,h3⟩
theorem EnvAt.lt {w:World} {bm:Nat} {E:List (ByteArray × Nat)} {B:List Nat} (h:EnvAt w bm E B):bm < w.heap.size:=by
  obtain ⟨D,n,h1,_⟩:=h
  exact h1.lt
theorem lookup_mem {E:List (ByteArray × Nat)} {nm:ByteArray} {p:Nat} (h:G.lookup E nm=some p):∃ x ∈ E,x.2=p:=by
  unfold G.lookup at h
  cases hf:E.find? fun x=>decide (x.1=nm) with
  | none=>rw [hf] at h;cases h
  | some x =>
    rw [hf] at h
    simp only [Option.map_some,Option.some.injEq] at h
    exact ⟨x,List.mem_of_find?_eq_some hf,h⟩
theorem envV_app {E:List (ByteArray × Nat)} {B X:List Nat} (hE:∀ x ∈ E,x.2 < B.length) (nm:ByteArray):envV E (B ++ X) nm=envV E B nm:=by
  unfold envV
  cases h:G.lookup E nm with
  | none=>rfl
  | some p =>
    obtain ⟨x,hx,rfl⟩:=lookup_mem h
    simp only
    rw [bl_app (hE x hx)]
theorem EnvAt.app {w:World} {bm:Nat} {E:List (ByteArray × Nat)} {B X:List Nat} (h:EnvAt w bm E B) (hE:∀ x ∈ E,x.2 < B.length):EnvAt w bm E (B ++ X):=by
  obtain ⟨D,n,h1,h2,h3⟩:=h
  exact ⟨D,n,h1,h2,fun nm hn=>by rw [envV_app hE];exact h3 nm hn⟩
structure PS (w:World) (b:Nat) (s:ByteArray) (c:C) (bm:Nat) (vR:Value) (I:Nat→Prop) (T:List PNode) (B:List Nat) (E:List (ByteArray × Nat)):Prop where
  rb:RB w b s c (.map (some bm)) vR
  tr:Tree w I T B
  env:EnvAt w bm E B
  tab:Tabs w
  own:Own b
  nb:¬ I b
  nm:¬ I bm
  bb:bm ≠ b
  wf:G.WF T
  el:∀ x ∈ E,x.2 < T.length
  ci:c.i≤s.size
  sz:s.size≤2000
theorem PS.step {w w':World} {b:Nat} {s:ByteArray} {c c':C} {bm:Nat} {vR:Value} {I:Nat→Prop} {T:List PNode} {B:List Nat} {E:List (ByteArray × Nat)} (h:PS w b s c bm vR I T B E) (hg:Gr b w w') (hr:RB w' b s c' (.map (some bm)) vR) (hi:c'.i≤s.size):PS w' b s c' bm vR I T B E where
  rb:=hr
  tr:=h.tr.gr hg h.nb
  env:=h.env.kept (hg.block bm h.env.lt h.bb)
  tab:=h.tab.gr hg h.own
  own:=h.own
  nb:=h.nb
  nm:=h.nm
  bb:=h.bb
  wf:=h.wf
  el:=h.el
  ci:=hi
  sz:=h.sz
theorem PS.below {w w':World} {b:Nat} {s:ByteArray} {c:C} {bm:Nat} {vR:Value} {I:Nat→Prop} {T:List PNode} {B:List Nat} {E:List (ByteArray × Nat)} (h:PS w b s c bm vR I T B E) (hb:Below w.heap.size w w'):PS w' b s c bm vR I T B E:=
  h.step (Gr.below hb) (h.rb.below hb) h.ci
theorem PS.add {w:World} {b:Nat} {s:ByteArray} {c:C} {bm:Nat} {vR:Value} {I I':Nat→Prop} {T:List PNode} {B:List Nat} {E:List (ByteArray × Nat)} {y:PNode} {a:Nat} (h:PS w b s c bm vR I T B E) (hI:∀ k,I k→I' k) (hlt:∀ k,I' k→k < w.heap.size) (hnb:¬ I' b) (hnm:¬ I' bm) (hp:∀ p ∈ y.parts,p < T.length) (hy:NodeAt w I' B a y) (hw:G.WF (T ++ [y])):PS w b s c bm vR I' (T ++ [y]) (B ++ [a]) E where
  rb:=h.rb
  tr:=h.tr.snoc h.wf hI hlt hp hy
  env:=h.env.app (fun x hx=>by rw [h.tr.len];exact h.el x hx)
  tab:=h.tab
  own:=h.own
  nb:=hnb
  nm:=hnm
  bb:=h.bb
  wf:=hw
  el x hx:=by have:=h.el x hx;simp;omega
  ci:=h.ci
  sz:=h.sz
theorem PS.leaf {w0 w:World} {b:Nat} {s:ByteArray} {c:C} {bm:Nat} {vR:Value} {I:Nat→Prop} {T:List PNode} {B:List Nat} {E:List (ByteArray × Nat)} {rs:List (Nat × Nat)} {o:Bool} {vr:Value} {rs':List (Nat × Nat)} {a:Nat}
    (h:PS w b s c bm vR I T B E) (hb0:b < w0.heap.size) (hm0:bm < w0.heap.size) (ha:w0.heap.size≤a) (hblk:w.heap[a]?=some (.cells (leafCells vr o) 149 (0,0))) (ho:w.ownsRow w0.heap.size 197 2 vr rs'.length (rc rs')) (hok:SetOk rs' rs) (hbd:∀ r ∈ rs,r.1≤1114111∧r.2≤1114111) :
    ∃ I',PS w b s c bm vR I' (T ++ [G.mk T 115 rs o []]) (B ++ [a]) E∧Ext w0 I B I' (B ++ [a]):=by
  refine ⟨fun k=>I k ∨ k=a ∨ vr.ownBlock=some k,h.add (fun k hk=>.inl hk) ?_ ?_ ?_ (by simp [G.mk]) ?_ (h.wf.snoc 115 rs o [] (by simp) hbd (.inl ⟨rfl,rfl⟩)),⟨fun k hk=>.inl hk,?_,[a],rfl⟩⟩
  · rintro k (hk | rfl | hk)
    · exact h.tr.lt k hk
    · exact lt_of_block hblk
    · exact (ho.lt k hk).2
  · rintro (hk | hk | hk)
    · exact h.nb hk
    · omega
    · have:=(ho.lt b hk).1;omega
  · rintro (hk | hk | hk)
    · exact h.nm hk
    · omega
    · have:=(ho.lt bm hk).1;omega
  · unfold NodeAt
    rw [if_neg (by simp [G.lone,G.mk]),if_pos (show (G.mk T 115 rs o []).kind=115 from rfl)]
    exact ⟨.inr (.inl rfl),vr,rs',hblk,own_low ho (Nat.zero_le _),hok,fun k e=>.inr (.inr e)⟩
  · rintro k (hk | rfl | hk)
    · exact .inl hk
    · exact .inr ha
    · exact .inr (ho.lt k hk).1
theorem PS.alone {w:World} {b:Nat} {s:ByteArray} {c:C} {bm:Nat} {vR:Value} {I:Nat→Prop} {T:List PNode} {B:List Nat} {E:List (ByteArray × Nat)} {k p:Nat} (h:PS w b s c bm vR I T B E) (hk:k=113 ∨ k=99) (hp:p < T.length) :
    PS w b s c bm vR I (T ++ [G.mk T k [] false [p]]) (B ++ [bl B p]) E:=by
  refine h.add (fun _ h=>h) h.tr.lt h.nb h.nm (by simpa [G.mk] using hp) ?_ (h.wf.snoc k [] false [p] (by simpa using hp) (by simp) (.inr (.inl ⟨hk,by simp⟩)))
  unfold NodeAt
  rw [if_pos (by rcases hk with rfl | rfl <;> simp [G.lone,G.mk])]
  rfl
theorem lone_iff {x:PNode}:G.lone x=true ↔ (x.kind=113 ∨ x.kind=99)∧x.parts.length=1:=by
  unfold G.lone
  rw [Bool.and_eq_true,Bool.or_eq_true,decide_eq_true_iff,decide_eq_true_iff,decide_eq_true_iff]
theorem PS.inner {w0 w:World} {b:Nat} {s:ByteArray} {c:C} {bm:Nat} {vR:Value} {I:Nat→Prop} {T:List PNode} {B:List Nat} {E:List (ByteArray × Nat)} {k:Nat} {ps:List Nat} {v:Value} {a:Nat}
    (h:PS w b s c bm vR I T B E) (hb0:b < w0.heap.size) (hm0:bm < w0.heap.size) (ha:w0.heap.size≤a) (hk:((k=113 ∨ k=99)∧ps ≠ []∧ps.length ≠ 1) ∨ ((k=42 ∨ k=43 ∨ k=63)∧ps.length=1)) (hp:∀ p ∈ ps,p < T.length)
    (hblk:w.heap[a]?=some (.cells (innerCells (kindN k) v (min (G.sizeOf T ps) 101)) 149 (0,0))) (ho:w.ownsRow w0.heap.size 143 1 v ps.length (ptrs B ps)) :
    ∃ I',PS w b s c bm vR I' (T ++ [G.mk T k [] false ps]) (B ++ [a]) E∧Ext w0 I B I' (B ++ [a]):=by
  have hk115:k ≠ 115:=by omega
  refine ⟨fun j=>I j ∨ j=a ∨ v.ownBlock=some j,h.add (fun k hk=>.inl hk) ?_ ?_ ?_ (by simpa [G.mk] using hp) ?_ (h.wf.snoc k [] false ps hp (by simp) ?_),⟨fun k hk=>.inl hk,?_,[a],rfl⟩⟩
  · rintro j (hj | rfl | hj)
    · exact h.tr.lt j hj
    · exact lt_of_block hblk
    · exact (ho.lt j hj).2
  · rintro (hj | hj | hj)
    · exact h.nb hj
    · omega
    · have:=(ho.lt b hj).1;omega
  · rintro (hj | hj | hj)
    · exact h.nm hj
    · omega
    · have:=(ho.lt bm hj).1;omega
  · unfold NodeAt
    have hl:¬ G.lone (G.mk T k [] false ps)=true:=by
      intro hl
      have hl2:=lone_iff.1 hl
      simp only [G.mk] at hl2
      rcases hk with ⟨_,_,h3⟩ | ⟨h3,_⟩
      · exact h3 hl2.2
      · omega
    rw [if_neg hl,if_neg (by simpa [G.mk] using hk115)]
    refine ⟨.inr (.inl rfl),v,?_,own_low ho (Nat.zero_le _),fun j e=>.inr (.inr e)⟩
    rw [hblk]
    simp [G.mk,hk115]
  · rcases hk with ⟨h1,h2,_⟩ | ⟨h1,h2⟩
    · exact .inr (.inl ⟨h1,h2⟩)
    · exact .inr (.inr ⟨h1,h2⟩)
  · rintro j (hj | rfl | hj)
    · exact .inl hj
    · exact .inr ha
    · exact .inr (ho.lt j hj).1
def RPost (w:World) (b:Nat) (s:ByteArray) (c:C) (bm:Nat) (vR:Value) (I:Nat→Prop) (B:List Nat) (E:List (ByteArray × Nat)) (r:G.Res) (e:Ending) (w':World):Prop:=
  Gr b w w'∧match r with
    | .ok n j T'=>∃ I' B',e=.returned (pv (bl B' n))∧PS w' b s { c with i:=G.skip s j } bm vR I' T' B' E∧Ext w I B I' B'
    | .err er p=>e=.returned (.pointer none)∧∃ i d,RB w' b s ⟨i,d,p,er⟩ (.map (some bm)) vR
end Pr
end Go.Proofs.YtpgcidpghmoibaaGreatDoor

namespace Go.Proofs.YtpgcidpghmoibaaGreatDoor
namespace Pr
open Go.RowKit Go.Maps
open Rf (Kept)
open G (PNode)
theorem infoP:(Tryz.prog.info? 143).map (fun i=>(i.zero,i.size,i.bytes))=some (some (.pointer none),1,8):=by kernel_rfl
structure LocP (w:World) (base:Nat) (I:Nat→Prop) (B:List Nat) (v:Value) (ps:List Nat):Prop where
  own:w.ownsRow base 143 1 v ps.length (ptrs B ps)
  out:∀ k,v.ownBlock=some k→¬ I k
theorem LocP.nil (w:World) (base:Nat) (I:Nat→Prop) (B:List Nat):LocP w base I B (.slice none 0 0) []:=⟨World.ownsRow_nil _ _ _ _,fun k e=>by simp [Value.ownBlock] at e⟩
theorem LocP.gr {w w':World} {base:Nat} {I:Nat→Prop} {B:List Nat} {v:Value} {ps:List Nat} {b:Nat} (h:LocP w base I B v ps) (hg:Gr b w w') (hb:b < base):LocP w' base I B v ps:=
  ⟨own_same_at h.own (fun k e=>hg.block k (h.own.lt k e).2 (by have:=(h.own.lt k e).1;omega)),h.out⟩
theorem LocP.below {w w':World} {base:Nat} {I:Nat→Prop} {B:List Nat} {v:Value} {ps:List Nat} (h:LocP w base I B v ps) (hg:Below w.heap.size w w'):LocP w' base I B v ps:=
  ⟨own_same_at h.own (fun k e=>hg.block k (h.own.lt k e).2),h.out⟩
theorem LocP.ext {w w0:World} {base:Nat} {B B':List Nat} {v:Value} {ps:List Nat} {I I':Nat→Prop} (h:LocP w base I B v ps) (he:Ext w0 I B I' B') (hp:∀ p ∈ ps,p < B.length) (hl:∀ k,v.ownBlock=some k→k < w0.heap.size):LocP w base I' B' v ps:=
  ⟨by rw [he.ptrs hp];exact h.own,fun k e hk=>by
    rcases he.new k hk with h2 | h2
    · exact h.out k e h2
    · have:=hl k e
      omega⟩
theorem grow_gr {b:Nat} {w0 w w6:World} {o:Obj} {v:Value} {base:Nat} (hg0:Gr b w0 w) (hbase:w0.heap.size≤base) (hv:∀ k,v.ownBlock=some k→base≤k) (hg:(w.alloc o).grownBy w6 v.ownBlock):Gr b w0 w6:=
  (hg0.alloc o).grown hg (fun k e hk=>by have:=hv k e;omega)
theorem grow_ps {w w6:World} {b:Nat} {s:ByteArray} {c:C} {bm:Nat} {vR:Value} {I:Nat→Prop} {T:List PNode} {B:List Nat} {E:List (ByteArray × Nat)} {o:Obj} {v:Value} (h:PS w b s c bm vR I T B E) (hg:(w.alloc o).grownBy w6 v.ownBlock) (hI:∀ k,v.ownBlock=some k→¬ I k) (hb:v.ownBlock ≠ some b) (hm:v.ownBlock ≠ some bm) (ht:∀ k,v.ownBlock=some k→Own k):PS w6 b s c bm vR I T B E:=by
  have hk:∀ k,k < w.heap.size→v.ownBlock ≠ some k→w6.heap[k]?=w.heap[k]?:=fun k hk hn=>(hg.block k (by simp;omega) (fun e=>hn e.symm)).trans (Below.heap_alloc _ _ _ hk)
  have hsz:w.heap.size≤w6.heap.size:=by have:=hg.size;simp at this;omega
  have hkp:Kept (fun k=>v.ownBlock ≠ some k) w w6:=⟨hg.os,hg.tape,hg.output,hsz,hk⟩
  exact {
    rb:=h.rb.kept hkp hb
    tr:=h.tr.same hsz (fun k hI2=>hk k (h.tr.lt k hI2) (fun e=>hI k e hI2))
    env:=h.env.kept (hk bm h.env.lt hm)
    tab:=h.tab.kept hkp (fun e=>(ht _ e).1 rfl) (fun e=>(ht _ e).2.1 rfl) (fun e=>(ht _ e).2.2 rfl)
    own:=h.own,nb:=h.nb,nm:=h.nm,bb:=h.bb,wf:=h.wf,el:=h.el,ci:=h.ci,sz:=h.sz }
structure Base (base b bm:Nat):Prop where
  b:b < base
  m:bm < base
  t:∀ k,base≤k→Own k
theorem PS.base {w:World} {b:Nat} {s:ByteArray} {c:C} {bm:Nat} {vR:Value} {I:Nat→Prop} {T:List PNode} {B:List Nat} {E:List (ByteArray × Nat)} (h:PS w b s c bm vR I T B E):Base w.heap.size b bm:=by
  obtain ⟨h1,h2,h3⟩:=h.tab.lt
  exact ⟨h.rb.lt,h.env.lt,fun k hk=>⟨by omega,by omega,by omega⟩⟩
theorem LocP.push {w w6:World} {b:Nat} {s:ByteArray} {c:C} {bm:Nat} {vR:Value} {I:Nat→Prop} {T:List PNode} {B:List Nat} {E:List (ByteArray × Nat)} {base:Nat} {v v1:Value} {ps:List Nat} {n:Nat} {o:Obj}
    (h:PS w b s c bm vR I T B E) (hB:Base base b bm) (hL:LocP w base I B v ps) (hn1:w6.ownsRow base 143 1 v1 (ps.length + 1) (ptrs B ps ++ [pv (bl B n)])) (hg:(w.alloc o).grownBy w6 v.ownBlock) (hat:v1.ownBlock=v.ownBlock ∨ v1.ownBlock=some (w.alloc o).heap.size) :
    PS w6 b s c bm vR I T B E∧LocP w6 base I B v1 (ps ++ [n])∧∀ w0:World,w0.heap.size≤base→Gr b w0 w→Gr b w0 w6:=by
  have hk:∀ k,v.ownBlock=some k→base≤k:=fun k e=>(hL.own.lt k e).1
  have hb:=hB.b
  have hm:=hB.m
  refine ⟨grow_ps h hg hL.out (fun e=>by have:=hk b e;omega) (fun e=>by have:=hk bm e;omega) (fun k e=>hB.t k (hk k e)),⟨?_,?_⟩,fun w0 h0 hg0=>grow_gr hg0 h0 hk hg⟩
  · rw [ptrs_snoc]
    simpa using hn1
  · intro k e hI
    rcases hat with e2 | e2
    · exact hL.out k (e2 ▸ e) hI
    · have e3:(w.alloc o).heap.size=k:=by rw [e] at e2;simpa using e2.symm
      have:=h.tr.lt k hI
      simp at e3
      omega
theorem Tree.sz_le {w:World} {I:Nat→Prop} {T:List PNode} {B:List Nat} (_h:Tree w I T B) (hT:G.WF T) (p:Nat) (hp:p < T.length):G.sz T p≤101:=by
  have hx:=List.getElem?_eq_getElem hp
  rw [G.sz_eq hx]
  exact hT.le _ (List.mem_of_getElem? hx)
theorem join_ps (w0 w:World) (b:Nat) (s:ByteArray) (c:C) (bm:Nat) (vR:Value) (I:Nat→Prop) (T:List PNode) (B:List Nat) (E:List (ByteArray × Nat)) (k code:Nat) (hk:(k=113∧code=1) ∨ (k=99∧code=2)) (v:Value) (ps:List Nat)
    (h:PS w b s c bm vR I T B E) (hB:Base w0.heap.size b bm) (h0:w0.heap.size≤w.heap.size) (hL:LocP w w0.heap.size I B v ps) (hne:ps ≠ []) (hps:∀ p ∈ ps,p < T.length) (hn:ps.length≤100000) :
    Calls Tryz.prog 129 #[.int .i64 (code:Int),v] w fun e w'=>∃ I' B',e=.returned (pv (bl B' T.length))∧PS w' b s c bm vR I' (T ++ [G.mk T k [] false ps]) B' E∧Ext w0 I B I' B'∧Below w.heap.size w w':=by
  have hk2:k=113 ∨ k=99:=by omega
  by_cases h1:ps.length=1
  · obtain ⟨p,rfl⟩:=List.length_eq_one_iff.1 h1
    refine (join_one w B code p v (own_low hL.own (Nat.zero_le _))).mono ?_
    rintro e w' ⟨rfl,rfl⟩
    refine ⟨I,B ++ [bl B p],?_,h.alone hk2 (hps p (by simp)),⟨fun _ h=>h,fun _ h=>.inl h,_,rfl⟩,Below.refl _ _⟩
    rw [← h.tr.len,bl_new]
  · refine (join_many w T B ps code v (own_low hL.own (Nat.zero_le _)) h1 hn (fun p hp=>h.tr.places h.wf p (hps p hp)) (fun p hp=>h.tr.sz_le h.wf p (hps p hp))).mono ?_
    rintro e w' ⟨a,rfl,ha,hblk,hb⟩
    have hkn:kindN k=code:=by rcases hk with ⟨rfl,rfl⟩ | ⟨rfl,rfl⟩ <;> rfl
    obtain ⟨I',hp',he'⟩:=(h.below hb).inner (w0:=w0) hB.b hB.m (Nat.le_trans h0 ha) (.inl ⟨hk2,hne,h1⟩) hps (by rw [hkn];exact hblk) (own_same_at hL.own (fun j e=>hb.block j (hL.own.lt j e).2))
    refine ⟨I',B ++ [a],?_,hp',he',hb⟩
    rw [← h.tr.len,bl_new]
end Pr
end Go.Proofs.YtpgcidpghmoibaaGreatDoor
