/-
  THE WALK of keepRunes
  THE WALK of taken (is Units told right?)
  THE WALK of the book's units
-/
import Derived.Test.YtpgcidpghmoibaaGreatDoorK26
import Derived.Test.YtpgcidpghmoibaaGreatDoorK22
import Derived.Deep.QuietTactic
import Derived.BigQuiet
import Derived.Test.YtpgcidpghmoibaaGreatDoorK25
namespace Go.Proofs.YtpgcidpghmoibaaGreatDoor
open Go.RowKit
theorem infoRl:(Tryz.prog.info? 49).map (fun i=>(i.zero,i.size,i.bytes))=some (some (.slice none 0 0),1,24):=by kernel_rfl
theorem full1 (n:Nat) (m:Int):full 1 n m=List.replicate n (.int .i32 m):=by
  induction n with
  | zero=>rfl
  | succ n ih=>rw [full_snoc,ih,List.replicate_succ'];rfl
set_option maxRecDepth 100000 in
set_option maxHeartbeats 1000000 in
theorem keepRunes_any (w:World) (b:Nat) (S:Nat→Prop) (c n:Nat) (l:Value) (xs:List Value) (hB:Book w b S c) (hc:c≤100000000) (hl:w.ownsRow 0 21 1 l n xs) (hn:n≤1000000000) (hlS:∀ k,l.ownBlock=some k→¬ S k) :
    Calls Tryz.prog 95 #[.pointer (some ⟨b,0,none⟩),l] w fun e w'=>e=.returned (.tuple #[])∧Book w' b (fun k=>S k ∨ l.ownBlock=some k ∨ w.heap.size≤k) (c + 1)∧Kept (fun k=>¬ S k∧l.ownBlock ≠ some k) w w':=by
  obtain ⟨i0,hi,hz0,hz1,hz2⟩:=info_parts infoInt
  obtain ⟨j0,hj0,hy0,hy1,hy2⟩:=info_parts infoI32
  obtain ⟨i1,hi1,hq0,hq1,hq2⟩:=info_parts infoRl
  obtain ⟨rL,rM,L,M,BA,hlen,hmk,hin⟩:=hB
  obtain ⟨a,cp,hla⟩:=own_len' hl
  subst hla
  have cb0:=cell_blk BA.blk 0 (.int .i64 (c:Int)) rfl
  have fb0:=free_blk BA.blk 0
  go_enter Tryz.func95,Tryz.ntmps95
  go_wp2
  have hn1:xs.length=n:=by have:=hl.1;omega
  have hS:∀ k,InBook b rL rM L k→(Value.slice a n cp).ownBlock ≠ some k:=fun k hk e=>hlS k e (hin k hk)
  have hlb:(Value.slice a n cp).ownBlock ≠ some b:=hS b (.inl rfl)
  go_loopw [4] (fun i wr=>∃ k:Nat,k≤n∧i=.int .i64 k∧BookAt wr b ((c:Int) + 1) rL rM L M∧wr.ownsRow 0 21 1 (.slice a n cp) n (List.replicate k (.int .i32 (-((c:Int) + 1))) ++ xs.drop k)∧Kept (fun j=>¬ S j∧(Value.slice a n cp).ownBlock ≠ some j) w wr)
    (fun i _=>n - (intOf i).toNat)
  case atStart=>exact ⟨0,Nat.zero_le _,rfl,BA.mark _,by simpa using own_same hl (fun k e=>Below.heap_setCell _ _ _ _ (fun (e2:k=b)=>hlb (e2 ▸ e))),(Kept.refl _ _).setCell (fun h=>h.1 (hin b (.inl rfl))) _⟩
  case round =>
    obtain ⟨k,hk,rfl,BR,hown,hkp⟩:=hrel
    have cr0:=cell_blk BR.blk 0 (.int .i64 ((c:Int) + 1)) rfl
    clear cb0 fb0
    by_cases hlt:k < n
    · obtain ⟨g,cap,hv,_,_⟩:=hown.form (by omega)
      simp only [Value.slice.injEq] at hv
      obtain ⟨rfl,_,rfl⟩:=hv
      have cg:(wr.cell? ⟨g,k,none⟩).isSome=true:=by rw [hown.cellAt k (by omega)];simp;omega
      obtain ⟨u0,cg⟩:=Option.isSome_iff_exists.1 cg
      have fg:=hown.frozenAt k
      have hst:=hown.stored k (.int .i32 (-((c:Int) + 1)))
      have BR2:BookAt (wr.setCell ⟨g,k,none⟩ (.int .i32 (-((c:Int) + 1)))) b ((c:Int) + 1) rL rM L M:=BR.same (by simp [World.setCell]) (fun j hj=>Below.heap_setCell _ _ _ _ (fun (e2:j=g)=>hS j hj (by rw [e2];rfl)))
      have hkp2:=hkp.setCell (q:=⟨g,k,none⟩) (fun h=>h.2 rfl) (.int .i32 (-((c:Int) + 1)))
      have HX:Hid _:=And.intro BR2 (And.intro hst hkp2)
      clear BR2 hst hkp2
      go_wp2
      go_roundw
      case rel=>exact ⟨k + 1,by omega,by go_num,HX.out.1,by rw [← set_full xs _ k (by omega)];exact HX.out.2.1.1,HX.out.2.2⟩
      case measure=>simp [intOf];omega
    · obtain rfl:k=n:=by omega
      have hown':wr.ownsRow 0 21 1 (.slice a k cp) k (full 1 k (-((c:Int) + 1))):=by rw [full1];simpa [List.drop_of_length_le (Nat.le_of_eq hn1)] using hown
      have K0:KS w wr b S c 1 (.slice a k cp) k 0 0 (.slice a k cp) rL rM L M:=
        ⟨BR,⟨hown',hlb,fun i=>⟨fun g e e2=>hS g (.inr (.inl ⟨i,e2⟩)) e,fun g e e2=>hS g (.inr (.inr (.inl ⟨i,e2⟩))) e⟩,
          fun t i l' m' hl' _ g e e2=>absurd e (hS g (.inr (.inr (.inr ⟨t,l',List.mem_of_getElem? hl',e2⟩))))⟩,
          fun t _=>(hlen t).1,(hlen 1).1,fun t=>by have:=hlen t;omega,(fun e=>by cases e),fun t m hm=>by have:=hmk t m hm;omega,fun i hi=>.inl (hin i hi),fun i e=>.inl e,hkp⟩
      have hSb:S b:=hin b (.inl rfl)
      have HK0:Hid _:=K0
      clear K0 BR hown hown' hkp cr0 hlen hmk hin BA hl hn1 hS hlb hlS
      go_wp2
      go_loopw [1,5] (fun lv i wr=>∃ (j:Nat) (rL rM:Fin 3→Value) (L:Fin 3→List Value) (M:Fin 3→List Int),j≤4∧i=.int .i64 j∧KS w wr b S c 1 (.slice a k cp) (k + j) j 0 lv rL rM L M) (fun _ i _=>4 - (intOf i).toNat)
      case atStart=>exact ⟨0,rL,rM,L,M,by omega,rfl,HK0.out⟩
      case round =>
        clear HK0
        obtain ⟨j,rL,rM,L,M,hj,rfl,KA⟩:=hrel
        by_cases hj4:j < 4
        · obtain ⟨la,lc,hlv⟩:=own_len' KA.cu.own
          subst hlv
          have cb1:=cell_blk KA.ba.blk 3 (rL 1) rfl
          have fb1:=free_blk KA.ba.blk 3
          have bd0:=KA.bd 1
          have l0:=KA.l0
          have hbl:=lt_of_block KA.ba.blk
          have nb0:=KA.ba.nbL 1
          have oL:wr.ownsRow 0 49 1 (rL 1) (L 1).length (L 1):=KA.ba.oL 1
          have bl0:(L 1).length≤4 * c + j:=by omega
          have HKA:Hid _:=KA
          clear KA l0 bd0
          go_wp2_with
           (at_builtin
            refine wpList_append_lies _ rfl (.tmp 37) (.tmp 39) 41 rfl 0 49 i1 (.slice none 0 0) 1 24 Tryz.underlying41 hi1 hq0 hq1 hq2 rfl (by decide) _ _ _ rfl (oL.alloc _) ⟨wr.heap.size,0,none⟩ 1 1 [.slice la (k + j) lc] rfl rfl (cell_one_new _ _ _) (fun x hx=>by simp at hx;subst hx;rfl) (by decide) (by unfold maxLen;omega) (by omega) (by simp) (wr.heap.size + 1) (by simp) ?_
            intro g1 cap1 w2 hn1 hg1 hat1 hlt1
            have hb2:w2.heap[b]?=_:=(hg1.block b (by simp;omega) (fun e=>nb0 e.symm)).trans ((Below.heap_alloc _ _ _ hbl).trans HKA.out.ba.blk)
            have cb1':=cell_blk hb2 3 (rL 1) rfl
            have fb1':=free_blk hb2 3
            clear hb2 cb1 fb1)
          obtain ⟨rL1,L1,KB⟩:∃ rL1 L1,KS w (w2.setCell ⟨b,3,none⟩ (.slice (some ⟨g1,0,none⟩) ((L 1).length + 1) cap1)) b S c 1 (.slice a k cp) (k + j) j 1 (.slice la (k + j) lc) rL1 rM L1 M:=
            ⟨_,_,HKA.out.A hSb ((Kept.refl _ _).alloc _) hg1 hn1 (lies_of hat1 (by omega))⟩
          clear cb1' fb1' hn1 hg1 hat1 hlt1 HKA oL bl0 nb0 hbl
          generalize w2.setCell ⟨b,3,none⟩ (.slice (some ⟨g1,0,none⟩) ((L 1).length + 1) cap1)=w3 at KB ⊢
          have cb0:=cell_blk KB.ba.blk 0 (.int .i64 ((c:Int) + 1)) rfl
          have cb2:=cell_blk KB.ba.blk 4 (rM 1) rfl
          have fb2:=free_blk KB.ba.blk 4
          have bd0:=KB.bd 1
          have hbl:=lt_of_block KB.ba.blk
          have nb0:=KB.ba.nbM 1
          have oM:w3.ownsRow 0 3 1 (rM 1) (M 1).length ((M 1).map (Value.int .i64)):=KB.ba.oM 1
          have HKB:Hid _:=KB
          clear KB
          obtain ⟨mk,hm,hm1,hm2⟩:∃ mk:Int,(c:Int) + 1=mk∧1≤mk∧mk≤100000001:=⟨_,rfl,by omega,by omega⟩
          have hwr:IntKind.i64.wrap (-mk)=-mk:=wrap_neg mk hm1 hm2
          rw [hm] at cb0 ⊢
          have HM:Hid ((c:Int) + 1=mk):=hm
          clear hm
          go_region_law
            ((refine step_append_lies _ (by rfl) _ _ _ (by rfl) 0 3 i0 _ 1 8 Tryz.underlying33 hi hz0 hz1 hz2 rfl (by omega) (rM 1) (M 1).length ((M 1).map (Value.int .i64)) (by rfl) ((oM.alloc _).drew)
                ⟨w3.heap.size,0,none⟩ 1 1 [.int .i64 (-mk)] (by rfl) (by rfl) (World.news_of_block (cs:=#[.int .i64 (-mk)]) (t:=3) (fr:=(0,0)) (heap_alloc_new w3 _)) (by simp [Value.oneCell'])
                (by omega) (by unfold maxLen;omega) (by omega) (by simp) (w3.heap.size + 1) (by simp) ?_;intro g2 cap2 w4 hn2 hg2 hat2 hlt2;have hb4:w4.heap[b]?=_:=(hg2.block b (by simp;omega) (fun e=>nb0 e.symm)).trans ((Below.heap_alloc _ _ _ hbl).trans HKB.out.ba.blk);have fb2':=free_blk hb4 4;have cb2':=cell_blk hb4 4 (rM 1) rfl;clear hb4))
          all_goals
            obtain ⟨rM1,M1,KC⟩:∃ rM1 M1,KS w (w4.setCell ⟨b,4,none⟩ (.slice (some ⟨g2,0,none⟩) ((M 1).length + 1) cap2)) b S c 1 (.slice a k cp) (k + j) (j + 1) 0 (.slice la (k + j) lc) rL1 rM1 L1 M1:=
              ⟨_,_,HKB.out.B hSb (((Kept.refl _ _).alloc _).drew) hg2 (by rw [HM.out];exact hn2) (lies_of hat2 (by omega))⟩
            clear cb2' fb2' hn2 hg2 hat2 hlt2 HKB oM nb0 hbl cb0 cb2 fb2 bd0 hwr
            generalize w4.setCell ⟨b,4,none⟩ (.slice (some ⟨g2,0,none⟩) ((M 1).length + 1) cap2)=w5 at KC ⊢
            have cb0:w5.cell? ⟨b,0,none⟩=some (.int .i64 mk):=by rw [← HM.out];exact cell_blk KC.ba.blk 0 (.int .i64 ((c:Int) + 1)) rfl
            have own5:w5.ownsRow 0 21 1 (.slice la (k + j) lc) (k + j) (full 1 (k + j) (-mk)):=by rw [← HM.out];exact KC.cu.own
            have HKC:Hid _:=KC
            clear KC
            go_wp2_with
             (at_builtin
              refine wpList_append_split _ rfl (.tmp 57) (.tmp 64) 49 rfl 0 21 j0 (.int .i32 0) 1 4 Tryz.underlying49 hj0 hy0 hy1 hy2 rfl (by decide) _ _ _ rfl (own5.alloc _) ⟨w5.heap.size,0,none⟩ 1 1 [.int .i32 (-mk)] rfl rfl (cell_one_new _ _ _) (fun x hx=>by simp at hx;subst hx;rfl) (by decide) (by unfold maxLen;omega) (by omega) (by simp) ?_
              intro v3 w6 hn3 hg3 hs3
              have KD:KS w w6 b S c 1 (.slice a k cp) (k + j + 1) (j + 1) 0 v3 rL1 rM1 L1 M1:=HKC.out.C ((Kept.refl _ _).alloc _) hg3 (by rw [HM.out];exact hn3) hs3
              have HKD:Hid _:=KD
              clear KD hn3 hg3 hs3 own5 HKC cb0)
            have hm:=HM.out
            subst hm
            go_roundw
            case rel=>exact ⟨j + 1,rL1,rM1,L1,M1,by omega,by go_num,HKD.out⟩
            case measure=>simp [intOf];omega
        · obtain rfl:j=4:=by omega
          go_wp2
          go_end0
          refine ⟨rfl,⟨rL,rM,L,M,KA.ba,fun t=>?_,fun t m hm=>?_,KA.foot⟩,KA.kept⟩
          · have h1:=KA.bd t
            by_cases e:t=1
            · subst e
              have:=KA.l0
              omega
            · have:=KA.lo t e
              omega
          · have:=KA.mks t m hm
            omega
end Go.Proofs.YtpgcidpghmoibaaGreatDoor

namespace Go.Proofs.YtpgcidpghmoibaaGreatDoor
open Go.RowKit
set_option maxHeartbeats 400000 in
theorem num_any (n:Int) (w:World):Calls Tryz.prog 35 #[.int .i64 n] w fun e w'=>e=.returned (.int .i64 n)∧w'=w:=by
  go_enter Tryz.func35,Tryz.ntmps35
  go_wp2
  go_ret
  exact ⟨rfl,rfl⟩
set_option maxRecDepth 100000 in
set_option maxHeartbeats 400000 in
theorem taken_long (s:ByteArray) (w:World) (h:1000 < s.size) (hs:s.size≤maxLen) :
    Calls Tryz.prog 94 #[.slice none 0 0,.slice none 0 0,.int .i64 1,.string s] w fun e w'=>e=.returned (.bool true)∧w'=w:=by
  go_enter Tryz.func94,Tryz.ntmps94
  go_wp2_with (first
    | (go_at_call 86;refine (runits_long s _ h hs).mono ?_;rintro e w' ⟨rfl,rfl⟩)
    | (go_at_call 35;refine (num_any _ _).mono ?_;rintro e w' ⟨rfl,rfl⟩))
  refine wp_loop_rounds 1 ?_
  rw [rounds_succ]
  go_wp2
  go_ret
  exact ⟨rfl,rfl⟩
theorem own_len {w:World} {b e size n:Nat} {v:Value} {xs:List Value} (h:w.ownsRow b e size v n xs):∃ a c,v=.slice a n c:=by
  rcases h.2 with ⟨rfl,rfl⟩ | ⟨g,cap,_,rfl,_⟩
  · exact ⟨_,_,rfl⟩
  · exact ⟨_,_,rfl⟩
set_option maxRecDepth 100000 in
set_option maxHeartbeats 1000000 in
theorem taken_none (s:ByteArray) (w:World) (h:s.size≤1000) (hn:(U.units s).length=0) (a1 a2:Option Addr) (c1 c2:Nat) :
    Calls Tryz.prog 94 #[.slice a1 0 c1,.slice a2 0 c2,.int .i64 0,.string s] w fun e w'=>e=.returned (.bool true)∧Below w.heap.size w w':=by
  go_enter Tryz.func94,Tryz.ntmps94
  go_wp2_with (first
    | (go_at_call 86;refine (runits_short s _ h).mono ?_;rintro e w1 ⟨v1,v2,rfl,ho1,ho2,hb⟩;rw [hn] at ho1 ho2;obtain ⟨b1,d1,rfl⟩:=own_len ho1;obtain ⟨b2,d2,rfl⟩:=own_len ho2)
    | (go_at_call 35;refine (num_any _ _).mono ?_;rintro e w' ⟨rfl,rfl⟩))
  refine wp_loop_rounds 1 ?_
  rw [rounds_succ]
  go_wp2
  go_ret
  exact ⟨rfl,hb⟩
theorem own_cell {w:World} {b e n g cap:Nat} {xs:List Value} (h:w.ownsRow b e 1 (.slice (some ⟨g,0,none⟩) n cap) n xs) {k:Nat} {u:Value} (hu:xs[k]?=some u):w.cell? ⟨g,k,none⟩=some u:=by
  have:=h.cells (g:=g) rfl k u hu
  have hadd:(⟨g,0,none⟩:Addr).add k=⟨g,k,none⟩:=by unfold Addr.add;split <;> simp_all
  rw [hadd] at this
  exact this
theorem own_below {w w':World} {N b e size n g cap:Nat} {xs:List Value} (hb:Below N w w') (hg:g < N) (h:w.ownsRow b e size (.slice (some ⟨g,0,none⟩) n cap) n xs):w'.ownsRow b e size (.slice (some ⟨g,0,none⟩) n cap) n xs:=by
  obtain ⟨h1,h2⟩:=h
  refine ⟨h1,?_⟩
  rcases h2 with ⟨h0,_⟩ | ⟨g',cap',cur,hv,h3,h4,h5⟩
  · cases h0
  · cases hv
    exact .inr ⟨g,cap,cur,rfl,h3,by rw [hb.block g hg];exact h4,h5⟩
theorem cell_heap {w w':World} (h:w'.heap=w.heap) {a:Addr}:w'.cell? a=w.cell? a:=World.cell?_of_block (by rw [h])
set_option maxRecDepth 100000 in
set_option maxHeartbeats 1000000 in
theorem taken_some (s:ByteArray) (w:World) (h:s.size≤1000) (hn:0 < (U.units s).length) (B g1 g2 c1 c2:Nat)
    (o1:w.ownsRow B 21 1 (.slice (some ⟨g1,0,none⟩) (U.units s).length c1) (U.units s).length (U.runes32 (U.units s)))
    (o2:w.ownsRow B 3 1 (.slice (some ⟨g2,0,none⟩) (U.units s).length c2) (U.units s).length (U.starts64 (U.units s))) :
    Calls Tryz.prog 94 #[.slice (some ⟨g1,0,none⟩) (U.units s).length c1,.slice (some ⟨g2,0,none⟩) (U.units s).length c2,.int .i64 0,.string s] w fun e w'=>e=.returned (.bool true)∧Below w.heap.size w w':=by
  have hlen:=U.units_length s
  have hbd:=U.units_bound s
  generalize hL:U.units s=L at *
  have HL:Hid (U.units s=L):=hL
  have HB:Hid (∀ x ∈ L,x.1≤1114111∧x.2 < s.size):=hbd
  clear hL hbd
  obtain ⟨n,hnn⟩:∃ n,L.length=n:=⟨_,rfl⟩
  rw [hnn] at o1 o2 hn hlen ⊢
  have HN:Hid (L.length=n):=hnn
  clear hnn
  have l1:=(o1.lt g1 rfl).2
  have l2:=(o2.lt g2 rfl).2
  go_enter Tryz.func94,Tryz.ntmps94
  go_wp2_with (first
    | (go_at_call 86;refine (runits_short s _ h).mono ?_;rintro e w1 ⟨v1,v2,rfl,ho1,ho2,hb⟩;rw [HL.out,HN.out] at ho1 ho2;obtain ⟨b1,d1,rfl,_⟩:=ho1.form hn;obtain ⟨b2,d2,rfl,_⟩:=ho2.form hn)
    | (go_at_call 35;refine (num_any _ _).mono ?_;rintro e w' ⟨rfl,rfl⟩))
  have q1:w'.ownsRow B 21 1 (.slice (some ⟨g1,0,none⟩) n c1) n (U.runes32 L):=own_below hb l1 o1
  have q2:w'.ownsRow B 3 1 (.slice (some ⟨g2,0,none⟩) n c2) n (U.starts64 L):=own_below hb l2 o2
  clear o1 o2
  go_loopw [12,13] (fun b i wr=>∃ k:Nat,k≤n∧b=.bool true∧i=.int .i64 k∧wr.heap=w'.heap∧Below w.heap.size w wr) (fun _ i _=>n - (intOf i).toNat)
  case atStart=>exact ⟨0,Nat.zero_le _,rfl,rfl,rfl,hb⟩
  case round =>
    obtain ⟨k,hk,rfl,rfl,hh,hbr⟩:=hrel
    by_cases hlt:k < n
    · have hkL:k < L.length:=by rw [HN.out];exact hlt
      obtain ⟨x,hx⟩:∃ x,L[k]?=some x:=⟨L[k],by simp [hkL]⟩
      have hbx:=HB.out x (List.mem_of_getElem? hx)
      have e1:wr.cell? ⟨g1,k,none⟩=some (.int .i32 (x.1:Int)):=by rw [cell_heap hh];exact own_cell q1 (by simp [U.runes32,hx])
      have e2:wr.cell? ⟨g2,k,none⟩=some (.int .i64 (x.2:Int)):=by rw [cell_heap hh];exact own_cell q2 (by simp [U.starts64,hx])
      have e3:wr.cell? ⟨b1,k,none⟩=some (.int .i64 (x.1:Int)):=by rw [cell_heap hh];exact own_cell ho1 (by simp [U.runes64,hx])
      have e4:wr.cell? ⟨b2,k,none⟩=some (.int .i64 (x.2:Int)):=by rw [cell_heap hh];exact own_cell ho2 (by simp [U.starts64,hx])
      have hki:(k:Int) < (n:Int):=by omega
      have hk0:(0:Int)≤(k:Int):=by omega
      have HH:Hid (wr.heap=w'.heap):=hh
      have hx1:=hbx.1
      have gd:((x.1:Int) == (x.1:Int))=true:=by simp
      clear hh hx hbx q1 q2 ho1 ho2 hb
      go_wp2
      go_quiet (fail)
      go_wp2
      go_roundw
      case rel=>exact ⟨k + 1,by omega,by simp,by go_num,HH.out,below_drewN hbr _⟩
      case measure=>simp [intOf];omega
    · obtain rfl:k=n:=by omega
      clear hh q1 q2 ho1 ho2 hb
      go_wp2
      go_ret
      exact ⟨rfl,hbr⟩
end Go.Proofs.YtpgcidpghmoibaaGreatDoor

namespace Go.Proofs.YtpgcidpghmoibaaGreatDoor
open Go.RowKit
def UnitsOut (w w':World) (s:ByteArray) (v1 v2:Value) (e:Int):Prop:=
  ∃ n xs ys,n≤1000∧w'.ownsRow 0 21 1 v1 n xs∧w'.ownsRow 0 3 1 v2 n ys∧(∀ k,v1.ownBlock=some k→w.heap.size≤k∧k < w'.heap.size)∧(∀ k,v2.ownBlock=some k→w.heap.size≤k∧k < w'.heap.size)∧Apart v1 v2∧Below w.heap.size w w' ∧
    ∀ W,W.ownsRow 0 21 1 v1 n xs→W.ownsRow 0 3 1 v2 n ys→Calls Tryz.prog 94 #[v1,v2,.int .i64 e,.string s] W fun r W'=>r=.returned (.bool true)∧Below W.heap.size W W'
theorem units_out (s:ByteArray) (w:World) (hs:s.size≤maxLen) :
    Calls Tryz.prog 24 #[.string s] w fun r w'=>∃ v1 v2 e,r=.returned (.tuple #[v1,v2,.int .i64 e])∧UnitsOut w w' s v1 v2 e:=by
  by_cases h:1000 < s.size
  · refine (units_long s w h hs).mono ?_
    rintro r w' ⟨rfl,rfl⟩
    refine ⟨_,_,_,rfl,0,[],[],by omega,World.ownsRow_nil _ _ _ _,World.ownsRow_nil _ _ _ _,fun k e=>by simp [Value.ownBlock] at e,fun k e=>by simp [Value.ownBlock] at e,Apart.nil _,Below.refl _ _,fun W _ _=>?_⟩
    refine (taken_long s W h hs).mono ?_
    rintro r W' ⟨rfl,rfl⟩
    exact ⟨rfl,Below.refl _ _⟩
  · refine (units_short s w (by omega)).mono ?_
    rintro r w' ⟨v1,v2,rfl,h1,h2,hb⟩
    refine ⟨_,_,_,rfl,(U.units s).length,_,_,by have:=U.units_length s;omega,own_zero h1,own_zero h2,fun k e=>?_,fun k e=>?_,?_,hb,fun W o1 o2=>?_⟩
    · have:=h1.lt k e
      omega
    · have:=h2.lt k e
      omega
    · intro k e1 e2
      rcases apart_of_types h1 h2 (by decide) with h3 | h3
      · rw [h3] at e2;cases e2
      · exact h3 (by rw [e1,e2])
    · by_cases hn:(U.units s).length=0
      · obtain ⟨a1,c1,e1⟩:=own_len' o1
        obtain ⟨a2,c2,e2⟩:=own_len' o2
        rw [e1,e2,hn]
        exact taken_none s W (by omega) hn a1 a2 c1 c2
      · obtain ⟨g1,c1,e1,_⟩:=o1.form (by omega)
        obtain ⟨g2,c2,e2,_⟩:=o2.form (by omega)
        rw [e1] at o1
        rw [e2] at o2
        rw [e1,e2]
        exact taken_some s W (by omega) (by omega) 0 g1 g2 c1 c2 o1 o2
set_option maxRecDepth 100000 in
set_option maxHeartbeats 2000000 in
theorem bunits_any (s:ByteArray) (w:World) (b:Nat) (S:Nat→Prop) (c:Nat) (hB:Book w b S c) (hc:c≤99999990) (hs:s.size≤maxLen) :
    Calls Tryz.prog 73 #[.pointer (some ⟨b,0,none⟩),.string s] w fun e w'=>e=.returned (.bool true)∧Book w' b (fun k=>S k ∨ w.heap.size≤k) (c + 4)∧Kept (fun k=>¬ S k) w w':=by
  have hB0:Book w b (fun k=>S k∧k < w.heap.size) c:=hB.mono (fun k hk h=>⟨h,hk⟩)
  have HB0:Hid (Book w b (fun k=>S k∧k < w.heap.size) c):=hB0
  clear hB hB0
  go_enter Tryz.func73,Tryz.ntmps73
  go_wp2_with fail
  refine (units_out s _ hs).mono ?_
  rintro r w1 ⟨v1,v2,e1,rfl,n1,x1,y1,hn1,o1,o2,q1,q2,ap1,hb1,tk1⟩
  have HT1:Hid _:=tk1
  clear tk1
  go_wp2_with fail
  refine (units_out s _ hs).mono ?_
  rintro r w2 ⟨v3,v4,e2,rfl,n2,x2,y2,hn2,o3,o4,q3,q4,ap2,hb2,tk2⟩
  have HT2:Hid _:=tk2
  clear tk2
  have o1:=own_belowAll o1 hb2
  have o2:=own_belowAll o2 hb2
  have B2:Book w2 b (fun k=>S k∧k < w.heap.size) c:=(HB0.out.below hb1).below hb2
  have s1:=hb1.size
  have s2:=hb2.size
  go_wp2_with fail
  refine (HT1.out w2 o1 o2).mono ?_
  rintro r w3 ⟨rfl,hb3⟩
  go_wp2_with fail
  refine (HT2.out w3 (own_belowAll o3 hb3) (own_belowAll o4 hb3)).mono ?_
  rintro r w4 ⟨rfl,hb4⟩
  have B4:Book w4 b (fun k=>S k∧k < w.heap.size) c:=(B2.below hb3).below hb4
  have o1:=own_belowAll (own_belowAll o1 hb3) hb4
  have o2:=own_belowAll (own_belowAll o2 hb3) hb4
  have o3:=own_belowAll (own_belowAll o3 hb3) hb4
  have o4:=own_belowAll (own_belowAll o4 hb3) hb4
  have s3:=hb3.size
  have s4:=hb4.size
  clear HT1 HT2 HB0 B2
  go_wp2_with fail
  refine (keepRunes_any w4 b _ c n1 v1 x1 B4 (by omega) o1 (by omega) (fun k e h=>by have:=q1 k e;omega)).mono ?_
  rintro r w5 ⟨rfl,B5,K5⟩
  have s5:=K5.size
  have o2:=own_kept o2 K5 (fun k e=>⟨fun h=>by have:=q2 k e;omega,fun h=>ap1 k h e⟩)
  have o3:=own_kept o3 K5 (fun k e=>⟨fun h=>by have:=q3 k e;omega,fun h=>by have:=q3 k e;have:=q1 k h;omega⟩)
  have o4:=own_kept o4 K5 (fun k e=>⟨fun h=>by have:=q4 k e;omega,fun h=>by have:=q4 k e;have:=q1 k h;omega⟩)
  go_wp2_with fail
  refine (keepInts_any w5 b _ (c + 1) n1 v2 y1 B5 (by omega) o2 (by omega) (fun k e h=>by
    have:=q2 k e
    rcases h with h | h | h
    · omega
    · exact ap1 k h e
    · omega)).mono ?_
  rintro r w6 ⟨rfl,B6,K6⟩
  have s6:=K6.size
  have o3:=own_kept o3 K6 (fun k e=>⟨fun h=>by
    have:=q3 k e
    rcases h with h | h | h
    · omega
    · have:=q1 k h;omega
    · omega,fun h=>by have:=q3 k e;have:=q2 k h;omega⟩)
  have o4:=own_kept o4 K6 (fun k e=>⟨fun h=>by
    have:=q4 k e
    rcases h with h | h | h
    · omega
    · have:=q1 k h;omega
    · omega,fun h=>by have:=q4 k e;have:=q2 k h;omega⟩)
  go_wp2_with fail
  refine (keepRunes_any w6 b _ (c + 2) n2 v3 x2 B6 (by omega) o3 (by omega) (fun k e h=>by
    have:=q3 k e
    rcases h with (h | h | h) | h | h
    · omega
    · have:=q1 k h;omega
    · omega
    · have:=q2 k h;omega
    · omega)).mono ?_
  rintro r w7 ⟨rfl,B7,K7⟩
  have s7:=K7.size
  have o4:=own_kept o4 K7 (fun k e=>⟨fun h=>by
    have:=q4 k e
    rcases h with (h | h | h) | h | h
    · omega
    · have:=q1 k h;omega
    · omega
    · have:=q2 k h;omega
    · omega,fun h=>ap2 k h e⟩)
  go_wp2_with fail
  refine (keepInts_any w7 b _ (c + 3) n2 v4 y2 B7 (by omega) o4 (by omega) (fun k e h=>by
    have:=q4 k e
    rcases h with ((h | h | h) | h | h) | h | h
    · omega
    · have:=q1 k h;omega
    · omega
    · have:=q2 k h;omega
    · omega
    · exact ap2 k h e
    · omega)).mono ?_
  rintro r w8 ⟨rfl,B8,K8⟩
  go_wp2
  go_ret
  refine ⟨rfl,B8.mono (fun k _ h=>?_),?_⟩
  · rcases h with (((h | h | h) | h | h) | h | h) | h | h
    · exact .inl h.1
    · have:=q1 k h;exact .inr (by omega)
    · exact .inr (by omega)
    · have:=q2 k h;exact .inr (by omega)
    · exact .inr (by omega)
    · have:=q3 k h;exact .inr (by omega)
    · exact .inr (by omega)
    · have:=q4 k h;exact .inr (by omega)
    · exact .inr (by omega)
  · have k14:Kept (fun k=>¬ S k) w w4:=⟨((hb4.os.trans hb3.os).trans hb2.os).trans hb1.os,((hb4.tape.trans hb3.tape).trans hb2.tape).trans hb1.tape,((hb4.output.trans hb3.output).trans hb2.output).trans hb1.output,by omega,fun k hk _=>(((hb4.block k (by omega)).trans (hb3.block k (by omega))).trans (hb2.block k (by omega))).trans (hb1.block k hk)⟩
    refine ⟨((((K8.os.trans K7.os).trans K6.os).trans K5.os)).trans k14.os,((((K8.tape.trans K7.tape).trans K6.tape).trans K5.tape)).trans k14.tape,((((K8.output.trans K7.output).trans K6.output).trans K5.output)).trans k14.output,by have:=K8.size;omega,fun k hk hp=>?_⟩
    have nS:¬ (S k∧k < w.heap.size):=fun h=>hp h.1
    have n1':v1.ownBlock ≠ some k:=fun h=>by have:=q1 k h;omega
    have n2':v2.ownBlock ≠ some k:=fun h=>by have:=q2 k h;omega
    have n3':v3.ownBlock ≠ some k:=fun h=>by have:=q3 k h;omega
    have n4':v4.ownBlock ≠ some k:=fun h=>by have:=q4 k h;omega
    have m5:¬ ((S k∧k < w.heap.size) ∨ v1.ownBlock=some k ∨ w4.heap.size≤k):=by
      rintro (h | h | h)
      · exact nS h
      · exact n1' h
      · omega
    have m6:¬ (((S k∧k < w.heap.size) ∨ v1.ownBlock=some k ∨ w4.heap.size≤k) ∨ v2.ownBlock=some k ∨ w5.heap.size≤k):=by
      rintro (h | h | h)
      · exact m5 h
      · exact n2' h
      · omega
    have m7:¬ ((((S k∧k < w.heap.size) ∨ v1.ownBlock=some k ∨ w4.heap.size≤k) ∨ v2.ownBlock=some k ∨ w5.heap.size≤k) ∨ v3.ownBlock=some k ∨ w6.heap.size≤k):=by
      rintro (h | h | h)
      · exact m6 h
      · exact n3' h
      · omega
    exact ((((K8.block k (by omega) ⟨m7,n4'⟩).trans (K7.block k (by omega) ⟨m6,n3'⟩)).trans (K6.block k (by omega) ⟨m5,n2'⟩)).trans (K5.block k (by omega) ⟨nS,n1'⟩)).trans (k14.block k hk hp)
end Go.Proofs.YtpgcidpghmoibaaGreatDoor
