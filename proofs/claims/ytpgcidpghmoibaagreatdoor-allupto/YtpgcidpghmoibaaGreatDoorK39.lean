/-
  THE PROGRAM's READER
  THE PROGRAM's READER
-/
import Derived.Test.YtpgcidpghmoibaaGreatDoorK38
namespace Go.Proofs.YtpgcidpghmoibaaGreatDoor
namespace Pr
open Go.RowKit Go.Maps
open Rf (Kept)
open G (PNode)
theorem seq_item {w:World} {b:Nat} {s:ByteArray} {c:C} {bm:Nat} {vR:Value} {I:Nat→Prop} {T:List PNode} {B:List Nat} {E:List (ByteArray × Nat)} {d i:Nat} {r:G.Res} {ps:List Nat} (h:PS w b s c bm vR I T B E) (hd:c.d=d) (hci:c.i=G.skip s i) (hIH0:d < 40→ExprP b s bm vR E (d + 1)) (hd40:d≤40) (hR:G.R s E (.seq ps) d i T r) (ha:G.atomic (G.pk s c.i)=true) :
    ∃ ri,(Calls Tryz.prog 143 #[.pointer (some ⟨b,0,none⟩)] w fun e w'=>RPost w b s c bm vR I B E ri e w') ∧
      ((∃ er p,ri=.err er p∧r=.err er p) ∨ ∃ n j T',ri=.ok n j T'∧n < T'.length∧T.length≤T'.length∧c.i < j∧j≤s.size∧G.R s E (.seq (ps ++ [n])) d j T' r):=by
  rw [hci] at ha
  have hA:∀ ra,G.R s E .atom d (G.skip s i) T ra→_:=fun ra hra=>atom_any w b s c bm vR I T B E d ra h hd (by rw [hci];exact hra) hIH0 hd40
  cases hR with
  | seqErr _ h2=>exact ⟨_,item_err w b s c bm vR I B E _ _ (hA _ h2),.inl ⟨_,_,rfl,rfl⟩⟩
  | seqRep h0 h2 h3 h4 =>
    rename_i n j T'
    obtain ⟨f1,f2,f3,f4,⟨X,hX⟩,f6⟩:=h2.fine (by rw [← hci];exact h.ci) h.wf (by simp [G.NT.parts]) (by simp [G.NT.ranges]) h.el
    have hg:=G.skip_ge s j
    have hl:=G.lt_of_pk (s:=s) (i:=G.skip s j) (by simp only [G.repeats,decide_eq_true_eq] at h3;omega)
    have hk:G.pk s (G.skip s j)=42 ∨ G.pk s (G.skip s j)=43 ∨ G.pk s (G.skip s j)=63:=by simpa [G.repeats] using h3
    have fin:∀ k:Nat,(G.pk s (G.skip s j)).toNat=k→(Calls Tryz.prog 143 #[.pointer (some ⟨b,0,none⟩)] w fun e w'=>RPost w b s c bm vR I B E (.ok T'.length (G.skip s j + 1) (T' ++ [G.mk T' k [] false [n]])) e w')→∃ ri,(Calls Tryz.prog 143 #[.pointer (some ⟨b,0,none⟩)] w fun e w'=>RPost w b s c bm vR I B E ri e w') ∧
        ((∃ er p,ri=.err er p∧r=.err er p) ∨ ∃ n j T',ri=.ok n j T'∧n < T'.length∧T.length≤T'.length∧c.i < j∧j≤s.size∧G.R s E (.seq (ps ++ [n])) d j T' r):=by
      intro k hk hC
      refine ⟨_,hC,.inr ⟨_,_,_,rfl,by simp,by rw [hX];simp,by omega,hl,?_⟩⟩
      rw [hk] at h4
      exact h4
    rcases hk with hk | hk | hk
    · exact fin 42 (by rw [hk];rfl) (item_star w b s c bm vR I B E n j T' h.sz f3 hk (hA _ h2))
    · exact fin 43 (by rw [hk];rfl) (item_plus w b s c bm vR I B E n j T' h.sz f3 hk (hA _ h2))
    · exact fin 63 (by rw [hk];rfl) (item_maybe w b s c bm vR I B E n j T' h.sz f3 hk (hA _ h2))
  | seqItem h0 h2 h3 h4 =>
    rename_i n j T'
    obtain ⟨f1,f2,f3,f4,⟨X,hX⟩,f6⟩:=h2.fine (by rw [← hci];exact h.ci) h.wf (by simp [G.NT.parts]) (by simp [G.NT.ranges]) h.el
    have hg:=G.skip_ge s j
    simp only [G.NT.sl,G.NT.sr] at f6
    have hxl:T.length≤T'.length:=by rw [hX];simp
    exact ⟨_,item_plain w b s c bm vR I B E n j T' h.sz h3 (hA _ h2),.inr ⟨_,_,_,rfl,f3,by rw [hX];simp,by omega,G.skip_le s j f2,h4⟩⟩
  | seqForm h1=>rw [ha] at h1;cases h1
  | seqEnd h1 _=>rw [ha] at h1;cases h1
theorem seq_adv {s:ByteArray} {E:List (ByteArray × Nat)} {d i n j:Nat} {T T':List PNode} (h:G.R s E (.seq []) d i T (.ok n j T')) (hi:i≤s.size) (hT:G.WF T) (hE:∀ x ∈ E,x.2 < T.length):G.skip s i≤j:=by
  have hsi:=G.skip_le s i hi
  cases h with
  | seqRep h0 h2 h3 h4 =>
    rename_i n1 j1 T1
    obtain ⟨f1,f2,f3,f4,⟨X,hX⟩,_⟩:=h2.fine hsi hT (by simp [G.NT.parts]) (by simp [G.NT.ranges]) hE
    have hg:=G.skip_ge s j1
    have hk:(G.pk s (G.skip s j1)).toNat=42 ∨ (G.pk s (G.skip s j1)).toNat=43 ∨ (G.pk s (G.skip s j1)).toNat=63:=by
      simp only [G.repeats,decide_eq_true_eq] at h3
      omega
    have hl:=G.lt_of_pk (s:=s) (i:=G.skip s j1) (by simp only [G.repeats,decide_eq_true_eq] at h3;omega)
    have:=(h4.fine hl (f4.snoc _ [] false [n1] (by simpa using f3) (by simp) (.inr (.inr ⟨hk,rfl⟩))) (by simp [G.NT.parts]) (by simp [G.NT.ranges]) (fun x hx=>by have:=hE x hx;rw [hX];simp;omega)).1
    omega
  | seqItem h0 h2 h3 h4 =>
    rename_i n1 j1 T1
    obtain ⟨f1,f2,f3,f4,⟨X,hX⟩,_⟩:=h2.fine hsi hT (by simp [G.NT.parts]) (by simp [G.NT.ranges]) hE
    have hg:=G.skip_ge s j1
    have:=(h4.fine (G.skip_le s j1 f2) f4 (by simpa [G.NT.parts] using f3) (by simp [G.NT.ranges]) (fun x hx=>by have:=hE x hx;rw [hX];simp;omega)).1
    omega
  | seqEnd _ h2=>exact absurd rfl h2
def SqInv (w0:World) (b:Nat) (s:ByteArray) (c:C) (bm:Nat) (vR:Value) (I:Nat→Prop) (B:List Nat) (E:List (ByteArray × Nat)) (d:Nat) (r:G.Res) (nt:List Nat→G.NT) (v:Value) (wr:World):Prop:=
  ∃ ps T1 B1 I1 i1,PS wr b s { c with i:=G.skip s i1 } bm vR I1 T1 B1 E∧LocP wr w0.heap.size I1 B1 v ps∧Ext w0 I B I1 B1∧Gr b w0 wr∧(∀ p ∈ ps,p < T1.length)∧ps.length≤G.skip s i1∧G.R s E (nt ps) d i1 T1 r
theorem lt_snoc2 {T1 T':List PNode} {ps:List Nat} {n:Nat} (h:∀ p ∈ ps,p < T1.length) (hT:T1.length≤T'.length) (hn:n < T'.length):∀ p ∈ ps ++ [n],p < T'.length:=by
  intro p hp
  rcases List.mem_append.1 hp with hp | hp
  · have:=h p hp
    omega
  · simp only [List.mem_singleton] at hp
    subst hp
    exact hn
set_option maxRecDepth 100000 in
set_option maxHeartbeats 4000000 in
theorem seq_any (w:World) (b:Nat) (s:ByteArray) (c:C) (bm:Nat) (vR:Value) (I:Nat→Prop) (T:List PNode) (B:List Nat) (E:List (ByteArray × Nat)) (d i:Nat) (r:G.Res) (h:PS w b s c bm vR I T B E) (hd:c.d=d) (hci:c.i=G.skip s i) (hIH0:d < 40→ExprP b s bm vR E (d + 1)) (hd40:d≤40) (hr:G.R s E (.seq []) d i T r) :
    Calls Tryz.prog 128 #[.pointer (some ⟨b,0,none⟩)] w fun e w'=>RPost w b s c bm vR I B E r e w':=by
  obtain ⟨i0,hi,hz0,hz1,hz2⟩:=info_parts infoP
  have hs:=h.sz
  have hB:=h.base
  have HD:Hid (c.d=d):=hd
  clear hd
  go_enter Tryz.func128,Tryz.ntmps128
  go_wp2
  go_loopw [3] (fun v wr=>SqInv w b s c bm vR I B E d r .seq v wr) (fun _ wr=>s.size - posOf b wr)
  case atStart =>
    refine ⟨[],T,B,I,i,?_,LocP.nil _ _ _ _,Ext.refl _ _ _,Kept.refl _ w,by simp,by simp,hr⟩
    have e:({ c with i:=G.skip s i }:C)=c:=by rw [← hci]
    rw [e]
    exact h
  case round =>
    obtain ⟨ps,T1,B1,I1,i1,hP,hL,hX,hG,hps,hpl,hR⟩:=hrel
    have HP:Hid (posOf b wr=G.skip s i1):=hP.rb.pos
    have hi1:G.skip s i1≤s.size:=hP.ci
    have hszl:=hG.size
    obtain ⟨pa,pc,hpe⟩:=Rf.own_len hL.own
    subst hpe
    have hAh:=ahead_any wr b s _ _ vR hP.rb hs hi1
    change Calls _ _ _ _ (fun e w'=>e=.returned (.bool (G.atomic (G.pk s (G.skip s i1))))∧_) at hAh
    have hDr:∀ n,Gr b wr (wr.drewN n):=fun n=>Kept.drewN (Kept.refl _ wr) n
    have hPn:∀ n,PS (wr.drewN n) b s { c with i:=G.skip s i1 } bm vR I1 T1 B1 E:=fun n=>hP.step (hDr n) (hP.rb.drewN n) hP.ci
    cases hat:G.atomic (G.pk s (G.skip s i1)) with
    | false =>
      rw [hat] at hAh
      by_cases hps0:ps.length=0
      · have hpn:ps=[]:=by simpa using hps0
        subst hpn
        have hre:r=.err 2 (G.skip s i1):=by
          cases hR with
          | seqForm _=>rfl
          | seqErr h1 _=>rw [hat] at h1;cases h1
          | seqRep h1 _ _ _=>rw [hat] at h1;cases h1
          | seqItem h1 _ _ _=>rw [hat] at h1;cases h1
          | seqEnd _ h2=>exact absurd rfl h2
        subst hre
        have hIt:=item_err wr b s _ bm vR I1 B1 E _ _ (atom_none wr b s _ bm vR I1 T1 B1 E hP hat)
        clear hR hat
        go_wp2_with (go_at_call 143;refine hIt.mono ?_;rintro e w2 ⟨hg2,rfl,i2,d2,hR2⟩)
        go_ret
        exact ⟨hG.trans hg2,rfl,_,_,hR2⟩
      · have hne:ps ≠ []:=by simpa using hps0
        have hre:r=.ok T1.length (G.skip s i1) (T1 ++ [G.mk T1 113 [] false ps]):=by
          cases hR with
          | seqForm _=>exact absurd rfl hne
          | seqErr h1 _=>rw [hat] at h1;cases h1
          | seqRep h1 _ _ _=>rw [hat] at h1;cases h1
          | seqItem h1 _ _ _=>rw [hat] at h1;cases h1
          | seqEnd _ h2=>rfl
        subst hre
        have hlb:((ps.length:Int) == 0)=false:=by simpa using hps0
        clear hR hat
        go_wp2_with (first
          | (go_at_call 129;refine hJ.mono ?_;rintro e w3 ⟨I',B',rfl,hP3,hX3,hb3⟩)
          | (go_at_call 142;refine hAh.mono ?_;rintro e w2 ⟨rfl,n,rfl⟩;have hJ:=join_ps w (wr.drewN n) b s _ bm vR I1 T1 B1 E 113 1 (.inl ⟨rfl,rfl⟩) _ ps (hPn n) hB hszl (hL.gr (hDr n) hB.b) hne hps (by omega)))
        go_ret
        refine ⟨(hG.trans (hDr n)).trans (Gr.below hb3),I',B',rfl,?_,hX.trans (Nat.le_refl _) hX3⟩
        rw [G.skip_skip]
        exact hP3
    | true =>
      rw [hat] at hAh
      have hItem:∀ n,_:=fun n=>seq_item (hPn n) HD.out rfl hIH0 hd40 hR hat
      clear hR hat
      by_cases hps0:ps.length=0
      · have hpn:ps=[]:=by simpa using hps0
        subst hpn
        obtain ⟨ri,hIt,hst⟩:=hItem 0
        change Calls _ _ _ wr _ at hIt
        go_wp2_with (first
            | (at_builtin
               refine wpList_append_own_at _ rfl (.tmp 16) (.tmp 18) 105 rfl w.heap.size 143 i0 (.pointer none) 1 8 Tryz.underlying105 hi hz0 hz1 hz2 rfl (by decide) (.slice pa ([]:List Nat).length pc) ([]:List Nat).length (ptrs B2 ([]:List Nat)) rfl (HL2.out.2.1.own.alloc _) ⟨w2.heap.size,0,none⟩ 1 1 [pv (bl B2 n2)] rfl rfl (cell_one_new _ _ _) (fun y hy=>by simp at hy;subst hy;rfl) (by unfold maxLen;omega) (by omega) (by have:=hbw2;simp;omega) ?_
               intro v1 w6 hn1 hg1 _ hat1
               have HPU:Hid _:=LocP.push (n:=n2) HL2.out.1 hB HL2.out.2.1 hn1 hg1 hat1
               clear hn1 hg1 hat1)
            | (go_at_call 143
               refine hIt.mono ?_
               rintro e w2 ⟨hg2,hm2⟩
               have hG2:Gr b wr w2:=hg2
               have hbw2:w.heap.size≤w2.heap.size:=Nat.le_trans hszl hG2.size
               cases ri
               case' err er pl =>
                 obtain ⟨rfl,i2,d2,hR2⟩:=hm2
                 have HE:Hid (r=.err er pl):=by
                   rcases hst with ⟨_,_,h1,h2⟩ | ⟨_,_,_,h1,_⟩
                   · cases h1;exact h2
                   · cases h1
                 clear hst
               case' ok n2 j2 T2 =>
                 obtain ⟨I2,B2,rfl,hP2,hX2⟩:=hm2
                 have hst2:n2 < T2.length∧T1.length≤T2.length∧G.skip s i1 < j2∧j2≤s.size∧G.R s E (.seq (([]:List Nat) ++ [n2])) d j2 T2 r:=by
                   rcases hst with ⟨_,_,h1,h2⟩ | ⟨_,_,_,h1,h2⟩
                   · cases h1
                   · cases h1;exact h2
                 have hL2:=(hL.gr hG2 hB.b).ext hX2 (fun p hp=>by rw [hP.tr.len];exact hps p hp) (fun k e=>(hL.own.lt k e).2)
                 have HL2:Hid _:=And.intro hP2 (And.intro hL2 (And.intro hX2 hst2))
                 clear hP2 hX2 hL2 hst2 hst))
        all_goals first
          | (go_ret
             rw [HE.out]
             exact ⟨hG.trans hG2,rfl,_,_,hR2⟩)
          | (obtain ⟨q1,q2,q3,q4,q5,q6,q7,q8⟩:=HL2.out
             have hgj:=G.skip_ge s j2
             have hgl:=G.skip_le s j2 q7
             have hQ:SqInv w b s c bm vR I B E d r .seq v1 w6:=⟨([]:List Nat) ++ [n2],T2,B2,I2,j2,HPU.out.1,HPU.out.2.1,hX.trans hG.size (q3.low (w:=wr) (Nat.le_refl _)),HPU.out.2.2 w (Nat.le_refl _) (hG.trans hG2),lt_snoc2 hps q5 q4,by simp;omega,q8⟩
             refine ⟨hQ,?_⟩
             rw [HP.out,HPU.out.1.rb.pos]
             show s.size - G.skip s j2 < _
             omega)
      · have hlb:((ps.length:Int) == 0)=false:=by simpa using hps0
        go_wp2_with (first
            | (at_builtin
               refine wpList_append_own_at _ rfl (.tmp 16) (.tmp 18) 105 rfl w.heap.size 143 i0 (.pointer none) 1 8 Tryz.underlying105 hi hz0 hz1 hz2 rfl (by decide) (.slice pa ps.length pc) ps.length (ptrs B2 ps) rfl (HL2.out.2.1.own.alloc _) ⟨w2.heap.size,0,none⟩ 1 1 [pv (bl B2 n2)] rfl rfl (cell_one_new _ _ _) (fun y hy=>by simp at hy;subst hy;rfl) (by unfold maxLen;omega) (by omega) (by have:=hbw2;simp;omega) ?_
               intro v1 w6 hn1 hg1 _ hat1
               have HPU:Hid _:=LocP.push (n:=n2) HL2.out.1 hB HL2.out.2.1 hn1 hg1 hat1
               clear hn1 hg1 hat1)
            | (go_at_call 143
               refine hIt.mono ?_
               rintro e w2 ⟨hg2,hm2⟩
               have hG2:Gr b wr w2:=((hDr n).trans hg2)
               have hbw2:w.heap.size≤w2.heap.size:=Nat.le_trans hszl hG2.size
               cases ri
               case' err er pl =>
                 obtain ⟨rfl,i2,d2,hR2⟩:=hm2
                 have HE:Hid (r=.err er pl):=by
                   rcases hst with ⟨_,_,h1,h2⟩ | ⟨_,_,_,h1,_⟩
                   · cases h1;exact h2
                   · cases h1
                 clear hst
               case' ok n2 j2 T2 =>
                 obtain ⟨I2,B2,rfl,hP2,hX2⟩:=hm2
                 have hst2:n2 < T2.length∧T1.length≤T2.length∧G.skip s i1 < j2∧j2≤s.size∧G.R s E (.seq (ps ++ [n2])) d j2 T2 r:=by
                   rcases hst with ⟨_,_,h1,h2⟩ | ⟨_,_,_,h1,h2⟩
                   · cases h1
                   · cases h1;exact h2
                 have hL2:=(hL.gr hG2 hB.b).ext hX2 (fun p hp=>by rw [hP.tr.len];exact hps p hp) (fun k e=>(hL.own.lt k e).2)
                 have HL2:Hid _:=And.intro hP2 (And.intro hL2 (And.intro hX2 hst2))
                 clear hP2 hX2 hL2 hst2 hst)
            | (go_at_call 142;refine hAh.mono ?_;rintro e wn ⟨rfl,n,rfl⟩;obtain ⟨ri,hIt,hst⟩:=hItem n))
        all_goals first
          | (go_ret
             rw [HE.out]
             exact ⟨hG.trans hG2,rfl,_,_,hR2⟩)
          | (obtain ⟨q1,q2,q3,q4,q5,q6,q7,q8⟩:=HL2.out
             have hgj:=G.skip_ge s j2
             have hgl:=G.skip_le s j2 q7
             have hQ:SqInv w b s c bm vR I B E d r .seq v1 w6:=⟨ps ++ [n2],T2,B2,I2,j2,HPU.out.1,HPU.out.2.1,hX.trans hG.size (q3.low (w:=wr) (Nat.le_refl _)),HPU.out.2.2 w (Nat.le_refl _) (hG.trans hG2),lt_snoc2 hps q5 q4,by simp;omega,q8⟩
             refine ⟨hQ,?_⟩
             rw [HP.out,HPU.out.1.rb.pos]
             show s.size - G.skip s j2 < _
             omega)
set_option maxRecDepth 100000 in
set_option maxHeartbeats 4000000 in
theorem expr_at (b:Nat) (s:ByteArray) (bm:Nat) (vR:Value) (E:List (ByteArray × Nat)) (d:Nat) (hd40:d≤40) (hIH0:d < 40→ExprP b s bm vR E (d + 1)):ExprP b s bm vR E d:=by
  intro w c I T B i r h hd hci hr
  obtain ⟨i0,hi,hz0,hz1,hz2⟩:=info_parts infoP
  have hs:=h.sz
  have hB:=h.base
  have HD:Hid (c.d=d):=hd
  clear hd
  go_enter Tryz.func102,Tryz.ntmps102
  go_wp2
  go_loopw [3] (fun v wr=>SqInv w b s c bm vR I B E d r .expr v wr) (fun _ wr=>s.size - posOf b wr)
  case atStart =>
    refine ⟨[],T,B,I,i,?_,LocP.nil _ _ _ _,Ext.refl _ _ _,Kept.refl _ w,by simp,by simp,hr⟩
    have e:({ c with i:=G.skip s i }:C)=c:=by rw [← hci]
    rw [e]
    exact h
  case round =>
    obtain ⟨ps,T1,B1,I1,i1,hP,hL,hX,hG,hps,hpl,hR⟩:=hrel
    have HP:Hid (posOf b wr=G.skip s i1):=hP.rb.pos
    have hi1:G.skip s i1≤s.size:=hP.ci
    have hszl:=hG.size
    obtain ⟨pa,pc,hpe⟩:=Rf.own_len hL.own
    subst hpe
    have hcase:(∃ er p,r=.err er p∧G.R s E (.seq []) d i1 T1 (.err er p)) ∨ ∃ n j T',G.R s E (.seq []) d i1 T1 (.ok n j T')∧((G.pk s (G.skip s j)=124∧G.R s E (.expr (ps ++ [n])) d (G.skip s j + 1) T' r) ∨ (G.pk s (G.skip s j) ≠ 124∧r=.ok T'.length (G.skip s j) (T' ++ [G.mk T' 99 [] false (ps ++ [n])]))):=by
      cases hR with
      | exprErr h1=>exact .inl ⟨_,_,rfl,h1⟩
      | exprMore h1 h2 h3=>exact .inr ⟨_,_,_,h1,.inl ⟨h2,h3⟩⟩
      | exprEnd h1 h2=>exact .inr ⟨_,_,_,h1,.inr ⟨h2,rfl⟩⟩
    clear hR
    rcases hcase with ⟨er,pl,rfl,hR⟩ | ⟨n2,j2,T2,hR,hst⟩
    · have hSq:=seq_any wr b s _ bm vR I1 T1 B1 E d i1 _ hP HD.out rfl hIH0 hd40 hR
      clear hR
      go_wp2_with (go_at_call 128;refine hSq.mono ?_;rintro e w2 ⟨hg2,rfl,i2,d2,hR2⟩)
      go_ret
      exact ⟨hG.trans hg2,rfl,_,_,hR2⟩
    · have hSq:=seq_any wr b s _ bm vR I1 T1 B1 E d i1 _ hP HD.out rfl hIH0 hd40 hR
      have hi0:i1≤s.size:=Nat.le_trans (G.skip_ge s i1) hi1
      obtain ⟨f1,f2,f3,f4,⟨X,hXX⟩,f6⟩:=hR.fine hi0 hP.wf (by simp [G.NT.parts]) (by simp [G.NT.ranges]) hP.el
      have hxl:T1.length≤T2.length:=by rw [hXX];simp
      have hgj:=G.skip_ge s j2
      have hgl:=G.skip_le s j2 f2
      have hadv:G.skip s i1≤G.skip s j2:=Nat.le_trans (seq_adv hR hi0 hP.wf hP.el) hgj
      have HXX:Hid _:=hXX
      clear hR hXX
      rcases hst with ⟨h124,hR2⟩ | ⟨h124,rfl⟩
      · have hlt:=G.lt_of_pk (s:=s) (i:=G.skip s j2) (by omega)
        have HR2:Hid _:=hR2
        clear hR2
        go_wp2_with (first
          | (go_at_call 126;refine (take_yes w6 b s _ _ vR 124 (by omega) HPU.out.1.rb hs hgl h124).mono ?_;rintro e w7 ⟨rfl,hR7,hE7⟩)
          | (at_builtin
             refine wpList_append_own_at _ rfl (.tmp 9) (.tmp 11) 105 rfl w.heap.size 143 i0 (.pointer none) 1 8 Tryz.underlying105 hi hz0 hz1 hz2 rfl (by decide) (.slice pa ps.length pc) ps.length (ptrs B2 ps) rfl (HL2.out.2.1.own.alloc _) ⟨w2.heap.size,0,none⟩ 1 1 [pv (bl B2 n2)] rfl rfl (cell_one_new _ _ _) (fun y hy=>by simp at hy;subst hy;rfl) (by unfold maxLen;omega) (by omega) (by have:=hbw2;simp;omega) ?_
             intro v1 w6 hn1 hg1 _ hat1
             have HPU:Hid _:=LocP.push (n:=n2) HL2.out.1 hB HL2.out.2.1 hn1 hg1 hat1
             clear hn1 hg1 hat1)
          | (go_at_call 128;refine hSq.mono ?_;rintro e w2 ⟨hg2,I2,B2,rfl,hP2,hX2⟩;have hbw2:w.heap.size≤w2.heap.size:=Nat.le_trans hszl hg2.size;have hL2:=(hL.gr hg2 hB.b).ext hX2 (fun p hp=>by rw [hP.tr.len];exact hps p hp) (fun k e=>(hL.own.lt k e).2);have HL2:Hid _:=And.intro hP2 (And.intro hL2 hX2);clear hP2 hX2 hL2))
        obtain ⟨q1,q2,q3⟩:=HL2.out
        have hG6:=HPU.out.2.2 w (Nat.le_refl _) (hG.trans hg2)
        have hgs:=G.skip_ge s (G.skip s j2 + 1)
        have hP7:=HPU.out.1.step hE7.kept hR7 (G.skip_le s _ hlt)
        have hQ:SqInv w b s c bm vR I B E d r .expr v1 w7:=⟨ps ++ [n2],T2,B2,I2,G.skip s j2 + 1,hP7,HPU.out.2.1.gr hE7.kept hB.b,hX.trans hG.size q3,hG6.trans hE7.kept,lt_snoc2 hps hxl f3,by simp;omega,HR2.out⟩
        refine ⟨hQ,?_⟩
        rw [HP.out,hP7.rb.pos]
        show s.size - G.skip s (G.skip s j2 + 1) < _
        omega
      · go_wp2_with (first
          | (go_at_call 129;refine hJ.mono ?_;rintro e w8 ⟨I',B',rfl,hP8,hX8,hb8⟩)
          | (go_at_call 126;refine (take_not w6 b s _ _ vR 124 (by omega) HPU.out.1.rb hs hgl h124).mono ?_;rintro e w7 ⟨rfl,hR7,hE7⟩;have hP7:=HPU.out.1.step hE7.kept hR7 hgl;have hG6:=HPU.out.2.2 w (Nat.le_refl _) (hG.trans hg2);have hJ:=join_ps w w7 b s _ bm vR I2 T2 B2 E 99 2 (.inr ⟨rfl,rfl⟩) v1 (ps ++ [n2]) hP7 hB (hG6.trans hE7.kept).size (HPU.out.2.1.gr hE7.kept hB.b) (by simp) (lt_snoc2 hps hxl f3) (by simp;omega))
          | (at_builtin
             refine wpList_append_own_at _ rfl (.tmp 9) (.tmp 11) 105 rfl w.heap.size 143 i0 (.pointer none) 1 8 Tryz.underlying105 hi hz0 hz1 hz2 rfl (by decide) (.slice pa ps.length pc) ps.length (ptrs B2 ps) rfl (HL2.out.2.1.own.alloc _) ⟨w2.heap.size,0,none⟩ 1 1 [pv (bl B2 n2)] rfl rfl (cell_one_new _ _ _) (fun y hy=>by simp at hy;subst hy;rfl) (by unfold maxLen;omega) (by omega) (by have:=hbw2;simp;omega) ?_
             intro v1 w6 hn1 hg1 _ hat1
             have HPU:Hid _:=LocP.push (n:=n2) HL2.out.1 hB HL2.out.2.1 hn1 hg1 hat1
             clear hn1 hg1 hat1)
          | (go_at_call 128;refine hSq.mono ?_;rintro e w2 ⟨hg2,I2,B2,rfl,hP2,hX2⟩;have hbw2:w.heap.size≤w2.heap.size:=Nat.le_trans hszl hg2.size;have hL2:=(hL.gr hg2 hB.b).ext hX2 (fun p hp=>by rw [hP.tr.len];exact hps p hp) (fun k e=>(hL.own.lt k e).2);have HL2:Hid _:=And.intro hP2 (And.intro hL2 hX2);clear hP2 hX2 hL2))
        go_ret
        refine ⟨(hG6.trans hE7.kept).trans (Gr.below hb8),I',B',rfl,?_,hX.trans (Nat.le_refl _) ((HL2.out.2.2.low hszl).trans (Nat.le_refl _) hX8)⟩
        rw [G.skip_skip]
        exact hP8
theorem expr_all (b:Nat) (s:ByteArray) (bm:Nat) (vR:Value) (E:List (ByteArray × Nat)):∀ (k d:Nat),d≤40→40 - d≤k→ExprP b s bm vR E d
  | 0,d,h1,_=>expr_at b s bm vR E d h1 (fun h=>by omega)
  | k + 1,d,h1,_=>expr_at b s bm vR E d h1 (fun h=>expr_all b s bm vR E k (d + 1) (by omega) (by omega))
end Pr
end Go.Proofs.YtpgcidpghmoibaaGreatDoor

namespace Go.Proofs.YtpgcidpghmoibaaGreatDoor
namespace Pr
open Go.RowKit Go.Maps
open Rf (Kept)
open G (PNode)
theorem name_empty {s:ByteArray} {i:Nat} (hi:i < s.size) (h:G.wend s (i + 1)=i + 1):(G.name s i).toList.isEmpty=true:=by
  have hnz:=name_size s i hi
  rw [← decide_eq_emptyBytes]
  exact decide_eq_true (ByteArray.size_eq_zero_iff.1 (by omega))
theorem name_some {s:ByteArray} {i:Nat} (hi:i < s.size) (h:G.wend s (i + 1) ≠ i + 1):(G.name s i).toList.isEmpty=false:=by
  have hnz:=name_size s i hi
  have hg:=G.wend_ge s (i + 1)
  rw [← decide_eq_emptyBytes]
  exact decide_eq_false (fun h2=>by rw [h2] at hnz;have:(ByteArray.empty).size=0:=rfl;omega)
set_option maxRecDepth 100000 in
set_option maxHeartbeats 1000000 in
theorem dahead_yes (w:World) (b:Nat) (s:ByteArray) (c:C) (m vR:Value) (hR:RB w b s c m vR) (hs:s.size≤2000) (hh:G.Head s c.i) :
    Calls Tryz.prog 100 #[.pointer (some ⟨b,0,none⟩)] w fun e w'=>e=.returned (.string (G.name s c.i))∧RB w' b s { c with i:=G.skip s (G.skip s (G.wend s (c.i + 1)) + 1) } m vR∧On b w w':=by
  obtain ⟨h36,hwe,h61⟩:=hh
  have hlt:=G.lt_of_pk (s:=s) (i:=c.i) (by omega)
  have hwl:=G.wend_le s (c.i + 1) (by omega)
  have hwg:=G.wend_ge s (c.i + 1)
  have hlt2:=G.lt_of_pk (s:=s) (i:=G.skip s (G.wend s (c.i + 1))) (by omega)
  have hPk:=peek_any w b s c _ vR hR hs (by omega)
  rw [(pkV_eq (by omega)).2 h36] at hPk
  have hN:∀ n,_:=fun n=>name_any (w.drewN n) b s c _ vR (hR.drewN n) hs hlt
  have hnz:=name_size s c.i hlt
  have hemp:=name_some hlt hwe
  generalize G.name s c.i=nm at *
  have he:c.i + (1 + nm.size)=G.wend s (c.i + 1):=by omega
  have hst:∀ n,_:=fun n=>step_any (w.drewN n) b s c _ vR (1 + nm.size) (hR.drewN n) hs (by omega)
  rw [he] at hst
  have hcast:((1 + nm.size:Nat):Int)=1 + (nm.size:Int):=by omega
  rw [hcast] at hst
  have hnb:nm.size≤2000:=by omega
  clear hnz he hcast
  obtain ⟨c0,c1,c2,c3,c4,c5,c6,fr⟩:=hR.reads
  go_enter Tryz.func100,Tryz.ntmps100
  go_wp2_with (first
    | (go_at_call 126;refine (take_yes w3 b s _ _ vR 61 (by omega) hR3 hs (by show G.skip s _≤_;omega) h61).mono ?_;rintro e w4 ⟨rfl,hR4,hE4⟩)
    | (go_at_call 125;refine (hst (n + k)).mono ?_;rintro e w3 ⟨rfl,hR3,hE3⟩)
    | (go_at_call 124;refine (hN n).mono ?_;rintro e w2 ⟨rfl,k,rfl⟩)
    | (go_at_call 98;refine hPk.mono ?_;rintro e w1 ⟨rfl,n,rfl⟩))
  go_ret
  exact ⟨rfl,hR4,(((On.refl b w).drewN (n + k)).trans hE3).trans hE4⟩
set_option maxRecDepth 100000 in
set_option maxHeartbeats 1000000 in
theorem dahead_not (w:World) (b:Nat) (s:ByteArray) (c:C) (m vR:Value) (hR:RB w b s c m vR) (hs:s.size≤2000) (hi:c.i≤s.size) (hh:¬ G.Head s c.i) :
    Calls Tryz.prog 100 #[.pointer (some ⟨b,0,none⟩)] w fun e w'=>e=.returned (.string ByteArray.empty)∧RB w' b s c m vR∧On b w w':=by
  have hPk:=peek_any w b s c _ vR hR hs (by omega)
  obtain ⟨c0,c1,c2,c3,c4,c5,c6,fr⟩:=hR.reads
  by_cases h36:G.pk s c.i=36
  · have hlt:=G.lt_of_pk (s:=s) (i:=c.i) (by omega)
    have hwl:=G.wend_le s (c.i + 1) (by omega)
    have hwg:=G.wend_ge s (c.i + 1)
    rw [(pkV_eq (by omega)).2 h36] at hPk
    have hN:∀ n,_:=fun n=>name_any (w.drewN n) b s c _ vR (hR.drewN n) hs hlt
    have hnz:=name_size s c.i hlt
    by_cases hwe:G.wend s (c.i + 1)=c.i + 1
    · have hemp:=name_empty hlt hwe
      generalize G.name s c.i=nm at *
      have he:c.i + (1 + nm.size)=G.wend s (c.i + 1):=by omega
      have hst:∀ n,_:=fun n=>step_any (w.drewN n) b s c _ vR (1 + nm.size) (hR.drewN n) hs (by omega)
      rw [he] at hst
      have hcast:((1 + nm.size:Nat):Int)=1 + (nm.size:Int):=by omega
      rw [hcast] at hst
      have hnb:nm.size≤2000:=by omega
      clear hnz he hcast
      go_enter Tryz.func100,Tryz.ntmps100
      go_wp2_with (first
        | (go_at_call 125;refine (hst (n + k)).mono ?_;rintro e w3 ⟨rfl,hR3,hE3⟩;clear c0 c1 c2 c3 c4 c5 c6 fr;obtain ⟨c0,c1,c2,c3,c4,c5,c6,fr⟩:=hR3.reads)
        | (go_at_call 124;refine (hN n).mono ?_;rintro e w2 ⟨rfl,k,rfl⟩)
        | (go_at_call 98;refine hPk.mono ?_;rintro e w1 ⟨rfl,n,rfl⟩))
      go_ret
      exact ⟨rfl,hR3.setI c.i,(((On.refl b w).drewN (n + k)).trans hE3).set _ _⟩
    · have hemp:=name_some hlt hwe
      generalize G.name s c.i=nm at *
      have he:c.i + (1 + nm.size)=G.wend s (c.i + 1):=by omega
      have hst:∀ n,_:=fun n=>step_any (w.drewN n) b s c _ vR (1 + nm.size) (hR.drewN n) hs (by omega)
      rw [he] at hst
      have hcast:((1 + nm.size:Nat):Int)=1 + (nm.size:Int):=by omega
      rw [hcast] at hst
      have hnb:nm.size≤2000:=by omega
      have h61:¬ G.pk s (G.skip s (G.wend s (c.i + 1)))=61:=fun e=>hh ⟨h36,hwe,e⟩
      have hsl:=G.skip_le s _ hwl
      clear hnz he hcast
      go_enter Tryz.func100,Tryz.ntmps100
      go_wp2_with (first
        | (go_at_call 126;refine (take_not w3 b s _ _ vR 61 (by omega) hR3 hs hsl h61).mono ?_;rintro e w4 ⟨rfl,hR4,hE4⟩;clear c0 c1 c2 c3 c4 c5 c6 fr;obtain ⟨c0,c1,c2,c3,c4,c5,c6,fr⟩:=hR4.reads)
        | (go_at_call 125;refine (hst (n + k)).mono ?_;rintro e w3 ⟨rfl,hR3,hE3⟩)
        | (go_at_call 124;refine (hN n).mono ?_;rintro e w2 ⟨rfl,k,rfl⟩)
        | (go_at_call 98;refine hPk.mono ?_;rintro e w1 ⟨rfl,n,rfl⟩))
      go_ret
      exact ⟨rfl,hR4.setI c.i,((((On.refl b w).drewN (n + k)).trans hE3).trans hE4).set _ _⟩
  · have hne:=pkV_ne (s:=s) (i:=c.i) (c:=36) (by omega) h36
    generalize pkV s c.i=p at hPk hne
    go_enter Tryz.func100,Tryz.ntmps100
    go_wp2_with (go_at_call 98;refine hPk.mono ?_;rintro e w1 ⟨rfl,n,rfl⟩)
    go_ret
    exact ⟨rfl,(hR.drewN n).setI c.i,((On.refl b w).drewN n).set _ _⟩
end Pr
end Go.Proofs.YtpgcidpghmoibaaGreatDoor
