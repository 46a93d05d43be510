/-
  THE PROGRAM's Cut
  THE PROGRAM's unitAt
-/
import Derived.Test.YtpgcidpghmoibaaGreatDoorK23
import Derived.Test.YtpgcidpghmoibaaGreatDoorK20
import Derived.Test.YtpgcidpghmoibaaGreatDoorK43
import Derived.Test.YtpgcidpghmoibaaGreatDoorK41
namespace Go.Proofs.YtpgcidpghmoibaaGreatDoor
namespace Pr
open Go.RowKit
open Rf (Kept Lies segs scell3)
open G (PNode)
def edgesV (s:ByteArray):List Value:=U.starts64 (U.units s) ++ [.int .i64 (s.size:Int)]
theorem edgesV_get (s:ByteArray) (k:Nat) (hk:k≤(U.units s).length):(edgesV s)[k]?=some (.int .i64 (G.edge s k:Int)):=by
  unfold edgesV U.starts64
  by_cases h:k < (U.units s).length
  · have hx:(U.units s)[k]?=some ((U.units s)[k]'h):=List.getElem?_eq_getElem h
    rw [List.getElem?_append_left (by simpa using h),List.getElem?_map,hx,Option.map_some,G.edge_of hx]
  · have e:k=(U.units s).length:=by omega
    subst e
    rw [List.getElem?_append_right (by simp),List.length_map,Nat.sub_self,G.edge_end s _ (by rw [G.us_len];exact Nat.le_refl _)]
    rfl
theorem memo_apart {w:World} {bm n:Nat} {P:List Pl} {b e sz k:Nat} {v:Value} {xs:List Value} (h:Memo w bm n P) (ho:w.ownsRow b e sz v k xs):v.ownBlock ≠ some bm:=by
  intro hv
  obtain ⟨es,clock,hb,_⟩:=h
  rcases ho.2 with ⟨rfl,_⟩ | ⟨g,cap,cur,rfl,_,hg,_⟩
  · simp [Value.ownBlock] at hv
  · have:g=bm:=by simpa [Value.ownBlock] using hv
    subst this
    rw [hb] at hg
    cases hg
theorem us_bound (s:ByteArray):∀ c ∈ G.us s,-2147483648≤c∧c≤2147483647:=by
  intro c hc
  unfold G.us at hc
  obtain ⟨x,hx,rfl⟩:=List.mem_map.1 hc
  have:=(U.units_bound s x hx).1
  omega
theorem puat_drop {w:World} {s:ByteArray} {b g cap:Nat} (hv:w.ownsRow b 21 1 (.slice (some ⟨g,0,none⟩) (U.units s).length cap) (U.units s).length (U.runes32 (U.units s))) (k H:Nat) (hH:g < H):UAt w (some ⟨g,k,none⟩) ((G.us s).drop k) H:=
  ⟨fun i c hc=>by
    rw [List.getElem?_drop] at hc
    refine ⟨g,k,rfl,hH,own_cell' hv (k + i) ?_⟩
    unfold G.us at hc
    rw [List.getElem?_map] at hc
    unfold U.runes32
    rw [List.getElem?_map]
    cases hx:(U.units s)[k + i]? with
    | none=>rw [hx] at hc;simp at hc
    | some x=>rw [hx] at hc;simp only [Option.map_some,Option.some.injEq] at hc ⊢;rw [hc]⟩
structure PIn (w:World) (b m:Nat) (I:Nat→Prop) (v:Value) (V:List Value) (T:List PNode) (Q:List Nat) (P:List Pl) (f:PB):Prop where
  blk:RuB w b T Q m
  ma:MaAt w I m v P V f
  lt:∀ k,I k→k < w.heap.size
  sem:MaS T Q Q.length P f
  few:P.length≤100
theorem PRul.pin {w:World} {b:Nat} {T:List PNode} {Q:List Nat} (h:PRul w b T Q) (hT:G.WF T) (hQ:∀ q ∈ Q,q < T.length) (hs:(Q.flatMap (G.lv T)).length≤100):∃ m I v V P f,PIn w b m I v V T Q P f:=by
  obtain ⟨I,m,v,V,h1,h2,h3⟩:=h.ex
  have ho:off T Q Q.length≤100:=by unfold off;rw [List.take_length];exact hs
  have hS:=machN_s hT hQ (by omega) Q.length (Nat.le_refl _)
  exact ⟨m,I,v,V,_,_,⟨h1,h2,h3,hS,by rw [hS.len];exact ho⟩⟩
theorem PIn.below {w w':World} {b m:Nat} {I:Nat→Prop} {v:Value} {V:List Value} {T:List PNode} {Q:List Nat} {P:List Pl} {f:PB} (h:PIn w b m I v V T Q P f) (hb:Below w.heap.size w w'):PIn w' b m I v V T Q P f:=
  ⟨h.blk.same (hb.block b h.blk.lt),h.ma.below h.lt hb,fun k e=>Nat.lt_of_lt_of_le (h.lt k e) hb.size,h.sem,h.few⟩
set_option maxRecDepth 100000 in
set_option maxHeartbeats 1000000 in
theorem pcut_long (w:World) (b:Nat) (s:ByteArray) (hs:1000 < s.size) (hm:s.size≤maxLen) :
    Calls Tryz.prog 27 #[pv b,.string s] w fun e w'=>e=.returned (.tuple #[.slice none 0 0,.int .i64 1])∧w'=w:=by
  go_enter Tryz.func27,Tryz.ntmps27
  go_wp2_with (go_at_call 24;refine (units_long s _ hs hm).mono ?_;rintro e w2 ⟨rfl,rfl⟩)
  go_ret2
  exact ⟨rfl,rfl⟩
theorem RunAt.grown {w X w6:World} {I:Nat→Prop} {b m bm:Nat} {v u:Value} {P:List Pl} {V:List Value} {f:PB} (h:RunAt w I b m bm v P V f) (hX:Kept (fun _=>True) w X) (hg:X.grownBy w6 u.ownBlock) (hne:∀ k,k=b ∨ k=m ∨ v.ownBlock=some k ∨ I k→u.ownBlock ≠ some k):RunAt w6 I b m bm v P V f:=by
  have key:∀ k,k < w.heap.size→(k=b ∨ k=m ∨ v.ownBlock=some k ∨ I k)→w6.heap[k]?=w.heap[k]?:=fun k hk e=>(hg.block k (Nat.lt_of_lt_of_le hk hX.size) (fun e2=>hne k e e2.symm)).trans (hX.block k hk trivial)
  exact {
    blk:=(key b (lt_of_block h.blk) (.inl rfl)).trans h.blk
    ma:=h.ma.same (fun k e=>by
      rcases e with rfl | e | e
      · exact key _ (lt_of_block h.ma.blk) (.inr (.inl rfl))
      · exact key k (h.ma.row.lt k e).2 (.inr (.inr (.inl e)))
      · exact key k (h.lt k e) (.inr (.inr (.inr e))))
    lt:=fun k e=>Nat.lt_of_lt_of_le (h.lt k e) (Nat.le_trans hX.size hg.size)
    ib:=h.ib }
theorem own_type {w:World} {b e sz n:Nat} {u:Value} {xs:List Value} (h:w.ownsRow b e sz u n xs) {k:Nat} {cs:Array Value} {t:TypeId} {fr:Nat × Nat} (hk:w.heap[k]?=some (.cells cs t fr)) (hne:e ≠ t):u.ownBlock ≠ some k:=by
  intro hu
  rcases h.2 with ⟨rfl,_⟩ | ⟨g,cap,cur,rfl,_,hg,_⟩
  · simp [Value.ownBlock] at hu
  · have:g=k:=by simpa [Value.ownBlock] using hu
    subst this
    rw [hk] at hg
    simp only [Option.some.injEq,Obj.cells.injEq] at hg
    exact hne hg.2.1.symm
structure PCInv (w:World) (br m bm:Nat) (I:Nat→Prop) (v:Value) (V:List Value) (T:List PNode) (Q:List Nat) (P:List Pl) (f:PB) (s:ByteArray) (v1 v3:Value) (k:Nat) (l:List G.Seg) (vo:Value) (wr:World):Prop where
  be:Below w.heap.size w wr
  bmn:w.heap.size≤bm
  ru:RunAt wr I br m bm v P V f
  me:Memo wr bm (1000 * k) P
  r1:wr.ownsRow w.heap.size 21 1 v1 (U.units s).length (U.runes32 (U.units s))
  r3:wr.ownsRow w.heap.size 3 1 v3 ((U.units s).length + 1) (edgesV s)
  row:wr.ownsRow w.heap.size 65 3 vo l.length (segs l)
  cut:G.CutTo T Q s k l
set_option maxRecDepth 100000 in
set_option maxHeartbeats 1000000 in
theorem pcut_short (w:World) (b m:Nat) (I:Nat→Prop) (v:Value) (V:List Value) (T:List PNode) (Q:List Nat) (P:List Pl) (f:PB) (hP:PIn w b m I v V T Q P f) (s:ByteArray) (hs:s.size≤1000) :
    Calls Tryz.prog 27 #[pv b,.string s] w fun e w'=>(∃ vo l,e=.returned (.tuple #[vo,.int .i64 0])∧G.CutR T Q s 0 l∧w'.ownsRow w.heap.size 65 3 vo l.length (segs l))∧Below w.heap.size w w':=by
  obtain ⟨i0,hi,hz⟩:=Option.map_eq_some_iff.1 Rf.infoSeg
  simp only [Prod.mk.injEq] at hz
  obtain ⟨hz0,hz1,hz2⟩:=hz
  obtain ⟨j0,hj,hy⟩:=Option.map_eq_some_iff.1 infoInt
  simp only [Prod.mk.injEq] at hy
  obtain ⟨hy0,hy1,hy2⟩:=hy
  have hul:=U.units_length s
  go_enter Tryz.func27,Tryz.ntmps27
  go_wp2_with (first
    | (go_at_call 61
       refine hRun.mono ?_
       rintro e w4 ⟨br,bm,rfl,hru,hme,hb4,hbm⟩)
    | (at_builtin
       refine wpList_append_own_at _ rfl (.tmp 25) (.tmp 28) 33 rfl (w.heap.size + 1) 3 j0 (.int .i64 0) 1 8 Tryz.underlying33 hj hy0 hy1 hy2 rfl (by decide) _ _ _ rfl (ho2.alloc _) ⟨w2.heap.size,0,none⟩ 1 1 [.int .i64 (s.size:Int)] rfl rfl (cell_one_new _ _ _) (fun x hx=>by simp at hx;subst hx;rfl) (by unfold maxLen;omega) (by omega) (by have:=hb2.size;simp;omega) ?_
       intro v3 w3 hn3 hg3 _ hat3
       have o1:=(ho1.alloc (.cells #[.int .i64 (s.size:Int)] 3)).kept hg3 (apart_of_types (ho2.alloc (.cells #[.int .i64 (s.size:Int)] 3)) (ho1.alloc (.cells #[.int .i64 (s.size:Int)] 3)) (by decide))
       have hb3:Below w.heap.size w w3:=Below.grown (hb2.alloc hb2.size _) hg3 (by have:=hb2.size;simp;omega) (fun k hk=>by have:=(ho2.lt k hk).1;omega)
       have hP3:=hP.below hb3
       have p1:=hP3.blk.mach
       have hRun:=mrun_any w3 I m v P V f hP3.ma hP3.lt
       obtain ⟨p3,c3,he3⟩:=Rf.own_len hn3
       subst he3
       clear ho1 ho2 hg3 hat3)
    | (go_at_call 24
       refine (units_short s _ hs).mono ?_
       rintro e w2 ⟨v1,v2,rfl,ho1,ho2,hb2⟩
       obtain ⟨q1,c1,he1⟩:=Rf.own_len ho1
       obtain ⟨q2,c2,he2⟩:=Rf.own_len ho2
       subst he1 he2))
  have hz2':=hb2.size
  have hz3:=hb3.size
  have hbw4:Below w.heap.size w w4:=hb3.trans (hb4.mono hz3)
  have low:∀ {e n:Nat} {u:Value} {xs:List Value},w3.ownsRow (w.heap.size + 1) e 1 u n xs→w4.ownsRow w.heap.size e 1 u n xs:=fun h=>by
    have h4:=Rf.own_sameB h (fun k e=>hb4.block k (h.lt k e).2)
    refine ⟨h4.1,?_⟩
    rcases h4.2 with h5 | ⟨g,cap,cur,rfl,h6,h7⟩
    · exact .inl h5
    · exact .inr ⟨g,cap,cur,rfl,by omega,h7⟩
  have h0:PCInv w br m bm I v V T Q P f s (.slice q1 (U.units s).length c1) (.slice p3 ((U.units s).length + 1) c3) 0 [] (.slice none 0 0) w4:=
    ⟨hbw4,by omega,hru,hme,low o1,low hn3,World.ownsRow_nil _ _ _ _,G.CutTo.zero _ _ _⟩
  have H0:Hid _:=h0
  clear h0 low hru hme hn3 o1 hRun hP3 p1
  go_loopw [11,12,13,14,15] (fun vo vk _ _ _ wr=>∃ (k:Nat) (l:List G.Seg),vk=.int .i64 k∧PCInv w br m bm I v V T Q P f s (.slice q1 (U.units s).length c1) (.slice p3 ((U.units s).length + 1) c3) k l vo wr) (fun _ vk _ _ _ _=>(U.units s).length - (intOf vk).toNat)
  case atStart=>exact ⟨0,[],rfl,H0.out⟩
  case round =>
    obtain ⟨k,l,rfl,hC⟩:=hrel
    have hsd:((G.us s).drop k).length=(U.units s).length - k:=by rw [List.length_drop,G.us_len]
    have hlk:=hC.cut.2.1
    have hkk:=hC.cut.1
    rw [G.us_len] at hkk
    have hbs:=hC.be.size
    by_cases hlt:k < (U.units s).length
    · obtain ⟨g1,cap1,hf,_,_⟩:=hC.r1.form (by omega)
      simp only [Value.slice.injEq] at hf
      obtain ⟨rfl,_,rfl⟩:=hf
      obtain ⟨g3,cap3,hf3,_,_⟩:=hC.r3.form (by omega)
      simp only [Value.slice.injEq] at hf3
      obtain ⟨rfl,_,rfl⟩:=hf3
      have hcl:=Rf.own_cap hC.r1
      have hck:¬ c1=k:=by omega
      have hg1b:g1 ≠ bm:=fun e=>memo_apart hC.me hC.r1 (by rw [e];rfl)
      have hLo:=plong_any wr I br m bm (1000 * k) v T Q P V f hC.ru hC.me hP.few hP.sem ((G.us s).drop k) (by rw [hsd];omega) (by omega) (fun c hc=>us_bound s c (List.mem_of_mem_drop hc)) (some ⟨g1,k,none⟩) (c1 - k) (puat_drop hC.r1 k _ (hC.r1.lt g1 rfl).2) (fun g off e=>by simp only [Option.some.injEq,Addr.mk.injEq] at e;rw [← e.1];exact hg1b)
      rw [hsd] at hLo
      have HC:Hid _:=hC
      clear hC
      go_wp2_with (go_at_call 62
                   refine hLo.mono ?_
                   rintro e w5 ⟨⟨n,r,rfl,hLn⟩,hMe5,hk5⟩
                   have hnl:=hLn.le
                   rw [hsd] at hnl
                   have HL:Hid (G.Long T Q ((G.us s).drop k) n r):=hLn
                   clear hLn
                   rcases Nat.eq_zero_or_pos n with rfl | hpos
                   have hmx:max (0:Int) 1=1:=(by omega)
                   rotate_left
                   have hmx:max (n:Int) 1=n:=(by omega)
                   rotate_left)
      · have hM:max 0 1=1:=by omega
        have hbe5:Below w.heap.size w w5:=HC.out.be.trans ⟨hk5.os,hk5.tape,hk5.output,by have:=hk5.size;omega,fun i hi=>hk5.block i (by omega) (by have:=HC.out.bmn;omega)⟩
        have hru5:=HC.out.ru.same hk5
        have r1:=Rf.own_sameB HC.out.r1 (fun i e=>hk5.block i (HC.out.r1.lt i e).2 (fun e2=>memo_apart HC.out.me HC.out.r1 (e2 ▸ e)))
        have r3:=Rf.own_sameB HC.out.r3 (fun i e=>hk5.block i (HC.out.r3.lt i e).2 (fun e2=>memo_apart HC.out.me HC.out.r3 (e2 ▸ e)))
        have oS:=Rf.own_sameB HC.out.row (fun i e=>hk5.block i (HC.out.row.lt i e).2 (fun e2=>memo_apart HC.out.me HC.out.row (e2 ▸ e)))
        have e0:w5.cell? ⟨g3,k,none⟩=some (.int .i64 (G.edge s k:Int)):=own_cell' r3 k (edgesV_get s k (by omega))
        have e1:w5.cell? ⟨g3,k + 1,none⟩=some (.int .i64 (G.edge s (k + 1):Int)):=own_cell' r3 (k + 1) (edgesV_get s (k + 1) (by omega))
        have hg3l:=(r3.lt g3 rfl).2
        have hbs5:=hbe5.size
        have hi1:k < (U.units s).length + 1:=by omega
        have hi2:k + 1 < (U.units s).length + 1:=by omega
        have hi3:(k:Int) < ((U.units s).length:Int) + 1:=by omega
        have hi4:(k:Int) + 1 < ((U.units s).length:Int) + 1:=by omega
        have hi5:(0:Int)≤(k:Int):=by omega
        have hi6:(0:Int)≤(k:Int) + 1:=by omega
        go_region_law
          ((refine step_append_lies _ (by rfl) _ _ _ (by rfl) w.heap.size 65 i0 _ 3 24 Tryz.underlying60 hi hz0 hz1 hz2 rfl (by omega) _ l.length (segs l) (by rfl) ((oS.alloc _).drew)
              ⟨w5.heap.size,0,none⟩ 1 1 [.int .i64 (G.edge s k:Int),.int .i64 (G.edge s (k + 1):Int),.int .i64 r] (by rfl) (by rfl) (World.news_of_block (cs:=#[.int .i64 (G.edge s k:Int),.int .i64 (G.edge s (k + 1):Int),.int .i64 r]) (t:=65) (fr:=(0,0)) (heap_alloc_new w5 _)) (fun y hy=>by simp at hy;rcases hy with rfl | rfl | rfl <;> rfl)
              (by omega) (by unfold maxLen;omega) (by omega) (by simp;omega) (w5.heap.size + 1) (by simp) ?_;intro g6 cap6 w6 hn6 hg6 hat6 hlt6))
        all_goals
          have hX:Kept (fun _=>True) w5 (w5.alloc (.cells #[.int .i64 (G.edge s k:Int),.int .i64 (G.edge s (k + 1):Int),.int .i64 r] 65)).drew:=((Kept.refl _ w5).alloc _).drew
          have hst:=HC.out.cut.step (by rw [G.us_len];exact hlt) HL.out
          rw [hM] at hst
          have hml:=lt_of_block hP.ma.blk
          have hru6:=hru5.grown hX hg6 (fun j e=>by
            rcases e with rfl | rfl | e | e
            · exact own_type oS hru5.blk (by decide)
            · exact fun e2=>by have:=(oS.lt _ e2).1;omega
            · exact fun e2=>by have:=(oS.lt j e2).1;have:=(hP.ma.row.lt j e).2;omega
            · exact fun e2=>by have:=(oS.lt j e2).1;have:=hP.lt j e;omega)
          have hr16:=Rf.own_sameB r1 (fun j e=>(hg6.block j (Nat.lt_of_lt_of_le (r1.lt j e).2 hX.size) (fun e2=>by
            rcases r1.2 with ⟨hv,_⟩ | ⟨gg,_,cur,hv,_,hgg,_⟩
            · rw [hv] at e;simp [Value.ownBlock] at e
            · have hgj:gg=j:=by rw [hv] at e;simpa [Value.ownBlock] using e
              subst hgj
              exact own_type oS hgg (by decide) e2.symm)).trans (hX.block j (r1.lt j e).2 trivial))
          have hr36:=Rf.own_sameB r3 (fun j e=>(hg6.block j (Nat.lt_of_lt_of_le (r3.lt j e).2 hX.size) (fun e2=>by
            rcases r3.2 with ⟨hv,_⟩ | ⟨gg,_,cur,hv,_,hgg,_⟩
            · rw [hv] at e;simp [Value.ownBlock] at e
            · have hgj:gg=j:=by rw [hv] at e;simpa [Value.ownBlock] using e
              subst hgj
              exact own_type oS hgg (by decide) e2.symm)).trans (hX.block j (r3.lt j e).2 trivial))
          have hme6:Memo w6 bm (1000 * (k + 1)) P:=(hMe5.mono (by omega)).same ((hg6.block bm (Nat.lt_of_lt_of_le hMe5.lt hX.size) (fun e2=>memo_apart hMe5 oS e2.symm)).trans (hX.block bm hMe5.lt trivial))
          have hbe6:Below w.heap.size w w6:=Below.grown ((hbe5.alloc (by omega) _).drew) hg6 (by simp;omega) (fun j e=>(oS.lt j e).1)
          have HF:Hid _:=(PCInv.mk hbe6 HC.out.bmn hru6 hme6 hr16 hr36 (by rw [Rf.segs_snoc,List.length_append,List.length_singleton];exact hn6) hst:PCInv w br m bm I v V T Q P f s (.slice (some ⟨g1,0,none⟩) (U.units s).length c1) (.slice (some ⟨g3,0,none⟩) ((U.units s).length + 1) c3) (k + 1) (l ++ [⟨G.edge s k,G.edge s (k + 1),r⟩]) (.slice (some ⟨g6,0,none⟩) (l.length + 1) cap6) w6)
          clear hX hst hru6 hr16 hr36 hme6 hbe6 hn6 hg6 hat6 hru5 r1 r3 oS e0 e1 hMe5 hk5 hbe5
          go_wp2
          exact ⟨⟨k + 1,_,by go_num,HF.out⟩,by simp [intOf];omega⟩
      · have hM:max n 1=n:=by omega
        have hbe5:Below w.heap.size w w5:=HC.out.be.trans ⟨hk5.os,hk5.tape,hk5.output,by have:=hk5.size;omega,fun i hi=>hk5.block i (by omega) (by have:=HC.out.bmn;omega)⟩
        have hru5:=HC.out.ru.same hk5
        have r1:=Rf.own_sameB HC.out.r1 (fun i e=>hk5.block i (HC.out.r1.lt i e).2 (fun e2=>memo_apart HC.out.me HC.out.r1 (e2 ▸ e)))
        have r3:=Rf.own_sameB HC.out.r3 (fun i e=>hk5.block i (HC.out.r3.lt i e).2 (fun e2=>memo_apart HC.out.me HC.out.r3 (e2 ▸ e)))
        have oS:=Rf.own_sameB HC.out.row (fun i e=>hk5.block i (HC.out.row.lt i e).2 (fun e2=>memo_apart HC.out.me HC.out.row (e2 ▸ e)))
        have e0:w5.cell? ⟨g3,k,none⟩=some (.int .i64 (G.edge s k:Int)):=own_cell' r3 k (edgesV_get s k (by omega))
        have e1:w5.cell? ⟨g3,k + n,none⟩=some (.int .i64 (G.edge s (k + n):Int)):=own_cell' r3 (k + n) (edgesV_get s (k + n) (by omega))
        have hg3l:=(r3.lt g3 rfl).2
        have hbs5:=hbe5.size
        have hi1:k < (U.units s).length + 1:=by omega
        have hi2:k + n < (U.units s).length + 1:=by omega
        have hi3:(k:Int) < ((U.units s).length:Int) + 1:=by omega
        have hi4:(k:Int) + (n:Int) < ((U.units s).length:Int) + 1:=by omega
        have hi5:(0:Int)≤(k:Int):=by omega
        have hi6:(0:Int)≤(k:Int) + (n:Int):=by omega
        have htn:((k:Int) + (n:Int)).toNat=k + n:=by omega
        go_region_law
          ((refine step_append_lies _ (by rfl) _ _ _ (by rfl) w.heap.size 65 i0 _ 3 24 Tryz.underlying60 hi hz0 hz1 hz2 rfl (by omega) _ l.length (segs l) (by rfl) ((oS.alloc _).drew)
              ⟨w5.heap.size,0,none⟩ 1 1 [.int .i64 (G.edge s k:Int),.int .i64 (G.edge s (k + n):Int),.int .i64 r] (by rfl) (by rfl) (World.news_of_block (cs:=#[.int .i64 (G.edge s k:Int),.int .i64 (G.edge s (k + n):Int),.int .i64 r]) (t:=65) (fr:=(0,0)) (heap_alloc_new w5 _)) (fun y hy=>by simp at hy;rcases hy with rfl | rfl | rfl <;> rfl)
              (by omega) (by unfold maxLen;omega) (by omega) (by simp;omega) (w5.heap.size + 1) (by simp) ?_;intro g6 cap6 w6 hn6 hg6 hat6 hlt6))
        all_goals
          have hX:Kept (fun _=>True) w5 (w5.alloc (.cells #[.int .i64 (G.edge s k:Int),.int .i64 (G.edge s (k + n):Int),.int .i64 r] 65)).drew:=((Kept.refl _ w5).alloc _).drew
          have hst:=HC.out.cut.step (by rw [G.us_len];exact hlt) HL.out
          rw [hM] at hst
          have hml:=lt_of_block hP.ma.blk
          have hru6:=hru5.grown hX hg6 (fun j e=>by
            rcases e with rfl | rfl | e | e
            · exact own_type oS hru5.blk (by decide)
            · exact fun e2=>by have:=(oS.lt _ e2).1;omega
            · exact fun e2=>by have:=(oS.lt j e2).1;have:=(hP.ma.row.lt j e).2;omega
            · exact fun e2=>by have:=(oS.lt j e2).1;have:=hP.lt j e;omega)
          have hr16:=Rf.own_sameB r1 (fun j e=>(hg6.block j (Nat.lt_of_lt_of_le (r1.lt j e).2 hX.size) (fun e2=>by
            rcases r1.2 with ⟨hv,_⟩ | ⟨gg,_,cur,hv,_,hgg,_⟩
            · rw [hv] at e;simp [Value.ownBlock] at e
            · have hgj:gg=j:=by rw [hv] at e;simpa [Value.ownBlock] using e
              subst hgj
              exact own_type oS hgg (by decide) e2.symm)).trans (hX.block j (r1.lt j e).2 trivial))
          have hr36:=Rf.own_sameB r3 (fun j e=>(hg6.block j (Nat.lt_of_lt_of_le (r3.lt j e).2 hX.size) (fun e2=>by
            rcases r3.2 with ⟨hv,_⟩ | ⟨gg,_,cur,hv,_,hgg,_⟩
            · rw [hv] at e;simp [Value.ownBlock] at e
            · have hgj:gg=j:=by rw [hv] at e;simpa [Value.ownBlock] using e
              subst hgj
              exact own_type oS hgg (by decide) e2.symm)).trans (hX.block j (r3.lt j e).2 trivial))
          have hme6:Memo w6 bm (1000 * (k + n)) P:=(hMe5.mono (by omega)).same ((hg6.block bm (Nat.lt_of_lt_of_le hMe5.lt hX.size) (fun e2=>memo_apart hMe5 oS e2.symm)).trans (hX.block bm hMe5.lt trivial))
          have hbe6:Below w.heap.size w w6:=Below.grown ((hbe5.alloc (by omega) _).drew) hg6 (by simp;omega) (fun j e=>(oS.lt j e).1)
          have HF:Hid _:=(PCInv.mk hbe6 HC.out.bmn hru6 hme6 hr16 hr36 (by rw [Rf.segs_snoc,List.length_append,List.length_singleton];exact hn6) hst:PCInv w br m bm I v V T Q P f s (.slice (some ⟨g1,0,none⟩) (U.units s).length c1) (.slice (some ⟨g3,0,none⟩) ((U.units s).length + 1) c3) (k + n) (l ++ [⟨G.edge s k,G.edge s (k + n),r⟩]) (.slice (some ⟨g6,0,none⟩) (l.length + 1) cap6) w6)
          clear hX hst hru6 hr16 hr36 hme6 hbe6 hn6 hg6 hat6 hru5 r1 r3 oS e0 e1 hMe5 hk5 hbe5
          go_wp2
          exact ⟨⟨k + n,_,by go_num,HF.out⟩,by simp [intOf];omega⟩
    · go_wp2
      go_ret2
      exact ⟨⟨_,l,rfl,hC.cut.done (by rw [G.us_len];exact hlt),hC.row⟩,hC.be⟩
end Pr
end Go.Proofs.YtpgcidpghmoibaaGreatDoor

namespace Go.Proofs.YtpgcidpghmoibaaGreatDoor
namespace Pr
open Go.RowKit
def bsB (N i:Nat) (e a:Int):Bool:=decide (i≤N∧e=a)
theorem bsB_iff {N i:Nat} {e a:Int}:bsB N i e a=true ↔ i≤N∧e=a:=by simp [bsB]
theorem ret_ib {i:Int} {x y:Bool} (h:x=y):Ending.returned (.tuple #[.int .i64 i,.bool x])=.returned (.tuple #[.int .i64 i,.bool y]):=by rw [h]
set_option maxRecDepth 100000 in
theorem cnan_any (a:Int) (w:World):Calls Tryz.prog 140 #[.int .i64 a] w fun e w'=>e=.returned (.bool false)∧w'=w:=by
  go_enter Tryz.func140,Tryz.ntmps140
  go_wp2
  go_ret
  exact ⟨rfl,rfl⟩
set_option maxRecDepth 100000 in
theorem nan_any (a:Int) (w:World):Calls Tryz.prog 122 #[.int .i64 a] w fun e w'=>e=.returned (.bool false)∧w'=w:=by
  go_enter Tryz.func122,Tryz.ntmps122
  go_wp2
  go_ret
  exact ⟨rfl,rfl⟩
set_option maxRecDepth 100000 in
theorem less_any (a b:Int) (w:World):Calls Tryz.prog 121 #[.int .i64 a,.int .i64 b] w fun e w'=>e=.returned (.bool (decide (a < b)))∧w'=w:=by
  go_enter Tryz.func121,Tryz.ntmps121
  go_wp2_with (go_at_call 140;refine (cnan_any _ _).mono ?_;rintro e w1 ⟨rfl,rfl⟩)
  go_ret
  exact ⟨rfl,rfl⟩
set_option maxRecDepth 100000 in
set_option maxHeartbeats 1000000 in
theorem bs_any (w:World) (s:ByteArray) (hs:s.size≤1000) (b g c:Nat) (h:w.ownsRow b 3 1 (.slice (some ⟨g,0,none⟩) ((U.units s).length + 1) c) ((U.units s).length + 1) (edgesV s)) (a:Int) :
    Calls Tryz.prog 93 #[.slice (some ⟨g,0,none⟩) ((U.units s).length + 1) c,.int .i64 a] w fun e w'=>(∃ i:Nat,i≤(U.units s).length + 1∧(∀ k,k < i→(G.edge s k:Int) < a)∧(∀ k,i≤k→k≤(U.units s).length→a≤(G.edge s k:Int))∧e=.returned (.tuple #[.int .i64 (i:Int),.bool (bsB (U.units s).length i (G.edge s i:Int) a)]))∧w'=w:=by
  have hul:=U.units_length s
  have cell:∀ k,k≤(U.units s).length→w.cell? ⟨g,k,none⟩=some (.int .i64 (G.edge s k:Int)):=fun k hk=>own_cell' h k (edgesV_get s k hk)
  have mono:∀ i k,i≤k→(G.edge s i:Int)≤(G.edge s k:Int):=fun i k hik=>by have:=G.edge_mono s hik;omega
  clear h
  generalize (U.units s).length=N at *
  go_enter Tryz.func93,Tryz.ntmps93
  go_wp2
  go_loop [7,8,9] (fun vi vj _=>∃ i j:Nat,vi=.int .i64 i∧vj=.int .i64 j∧i≤j∧j≤N + 1∧(∀ k,k < i→(G.edge s k:Int) < a)∧(∀ k,j≤k→k≤N→a≤(G.edge s k:Int))) (fun vi vj _=>(intOf vj).toNat - (intOf vi).toNat)
  case atStart=>exact ⟨0,N + 1,rfl,by first | rfl | go_num,Nat.zero_le _,Nat.le_refl _,fun k hk=>by omega,fun k h1 h2=>by omega⟩
  case round =>
    obtain ⟨i,j,rfl,rfl,hij,hjn,hlo,hhi⟩:=hrel
    have HL:Hid _:=And.intro hlo hhi
    clear hlo hhi
    by_cases hlt:i < j
    · have hd0:i≤(i + j) / 2∧(i + j) / 2 < j:=by omega
      have c0:=cell ((i + j) / 2) (by omega)
      have hLe:=less_any (G.edge s ((i + j) / 2):Int) a w
      by_cases hc:(G.edge s ((i + j) / 2):Int) < a
      · rw [decide_eq_true hc] at hLe
        have HG:Hid (∀ k,k < (i + j) / 2 + 1→(G.edge s k:Int) < a):=fun k hk=>by have:=mono k ((i + j) / 2) (by omega);omega
        clear hc mono cell
        go_wp2_with (go_at_call 121;refine hLe.mono ?_;rintro e w1 ⟨rfl,rfl⟩)
        refine ⟨⟨(i + j) / 2 + 1,j,by first | go_num | (congr 1;omega),rfl,by omega,hjn,HG.out,HL.out.2⟩,by simp [intOf];omega⟩
      · rw [decide_eq_false hc] at hLe
        have HG:Hid (∀ k,(i + j) / 2≤k→k≤N→a≤(G.edge s k:Int)):=fun k hk _=>by have:=mono ((i + j) / 2) k (by omega);omega
        clear hc mono cell
        go_wp2_with (go_at_call 121;refine hLe.mono ?_;rintro e w1 ⟨rfl,rfl⟩)
        refine ⟨⟨i,(i + j) / 2,rfl,by first | go_num | (congr 1;omega),by omega,by omega,HL.out.1,HG.out⟩,by simp [intOf];omega⟩
    · have e:i=j:=by omega
      subst e
      by_cases hi:i≤N
      · have c0:=cell i hi
        by_cases hq:(G.edge s i:Int)=a
        · have hqb:((G.edge s i:Int) == a)=true:=by simpa using hq
          have HQ:Hid (bsB N i (G.edge s i:Int) a=true):=bsB_iff.2 ⟨hi,hq⟩
          clear hq mono cell
          go_wp2_with (go_at_call 122;refine (nan_any _ _).mono ?_;rintro e w1 ⟨rfl,rfl⟩)
          go_ret2
          exact ⟨⟨i,hjn,HL.out.1,HL.out.2,ret_ib (x:=true) HQ.out.symm⟩,rfl⟩
        · have hqb:((G.edge s i:Int) == a)=false:=by simpa using hq
          have HQ:Hid (bsB N i (G.edge s i:Int) a=false):=by show bsB _ _ _ _=false;simp [bsB,hq]
          clear hq mono cell
          go_wp2_with (go_at_call 122;refine (nan_any _ _).mono ?_;rintro e w1 ⟨rfl,rfl⟩)
          go_ret2
          exact ⟨⟨i,hjn,HL.out.1,HL.out.2,ret_ib (x:=false) HQ.out.symm⟩,rfl⟩
      · have HQ:Hid (bsB N i (G.edge s i:Int) a=false):=by show bsB _ _ _ _=false;simp [bsB,hi]
        clear mono cell
        go_wp2
        go_ret2
        exact ⟨⟨i,hjn,HL.out.1,HL.out.2,ret_ib (x:=false) HQ.out.symm⟩,rfl⟩
set_option maxRecDepth 100000 in
set_option maxHeartbeats 1000000 in
theorem uat_any (w:World) (s:ByteArray) (hs:s.size≤1000) (b g c:Nat) (h:w.ownsRow b 3 1 (.slice (some ⟨g,0,none⟩) ((U.units s).length + 1) c) ((U.units s).length + 1) (edgesV s)) (a:Int) :
    Calls Tryz.prog 70 #[.slice (some ⟨g,0,none⟩) ((U.units s).length + 1) c,.int .i64 a] w fun e w'=>(∃ k:Nat,G.UnitAt s a k∧e=.returned (.int .i64 (k:Int)))∧w'=w:=by
  have hB:=bs_any w s hs b g c h a
  have hst:∀ k,k < (U.units s).length→(G.edge s k:Int) < (G.edge s (k + 1):Int):=fun k hk=>by have:=G.edge_lt s k (by rw [G.us_len];exact hk);omega
  have h0:=G.edge_zero s
  have HS:Hid _:=And.intro hst h0
  have hul:=U.units_length s
  clear hst h0
  go_enter Tryz.func70,Tryz.ntmps70
  go_wp2_with (go_at_call 93;refine hB.mono ?_;rintro e w1 ⟨⟨i,hi,hlo,hhi,rfl⟩,rfl⟩;cases hfb:bsB (U.units s).length i (G.edge s i:Int) a)
  · have hf:¬ (i≤(U.units s).length∧(G.edge s i:Int)=a):=fun h=>by rw [bsB_iff.2 h] at hfb;cases hfb
    go_ret
    by_cases e0:i=0
    · subst e0
      refine ⟨⟨0,⟨Nat.zero_le _,fun j h1 h2=>by omega,fun h=>?_⟩,by first | rfl | (congr 1)⟩,rfl⟩
      rw [G.us_len] at h
      have h1:=hhi 0 (Nat.le_refl _) (Nat.zero_le _)
      have h2:=HS.out.1 0 h
      omega
    · refine ⟨⟨i - 1,⟨by rw [G.us_len];omega,fun j h1 h2=>by have:=hlo j (by omega);omega,fun h=>?_⟩,?_⟩,rfl⟩
      · rw [G.us_len] at h
        rw [show i - 1 + 1=i by omega]
        have h1:=hhi i (Nat.le_refl _) (by omega)
        have h2:¬ (G.edge s i:Int)=a:=fun e=>hf ⟨by omega,e⟩
        omega
      · exact ret_int (by omega)
  · have hf:=bsB_iff.1 hfb
    go_ret
    refine ⟨⟨i,⟨by rw [G.us_len];exact hf.1,fun j h1 h2=>?_,fun h=>?_⟩,rfl⟩,rfl⟩
    · by_cases e:j=i
      · rw [e];omega
      · have:=hlo j (by omega);omega
    · rw [G.us_len] at h
      have:=HS.out.1 i h
      omega
end Pr
end Go.Proofs.YtpgcidpghmoibaaGreatDoor
