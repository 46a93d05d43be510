/-
  THE REFERENCE's READER
  THE REFERENCE's READER
-/
import Derived.Test.YtpgcidpghmoibaaGreatDoorK16
namespace Go.Proofs.YtpgcidpghmoibaaGreatDoor
namespace Rf
open Go.RowKit
open G (PNode)
theorem rep_cases (s:ByteArray) (k:Nat):G.pk s k=42 ∨ G.pk s k=43 ∨ G.pk s k=63 ∨ ((G.pk s k == 42)=false∧(G.pk s k == 43)=false∧(G.pk s k == 63)=false):=by
  by_cases h1:G.pk s k=42
  · exact .inl h1
  by_cases h2:G.pk s k=43
  · exact .inr (.inl h2)
  by_cases h3:G.pk s k=63
  · exact .inr (.inr (.inl h3))
  · exact .inr (.inr (.inr ⟨by simpa using h1,by simpa using h2,by simpa using h3⟩))
set_option maxRecDepth 100000 in
set_option maxHeartbeats 4000000 in
theorem seq_any (w:World) (b:Nat) (s:ByteArray) (S:Nat→Prop) (st:St) (d:Nat) (hR:Rd w b s S st) (hs:s.size≤2000) (hP:Pre s st) (hev:st.env.length≤100000) (hd:st.deep=d) (hd40:d≤40) (hIH:d < 40→ExprAt b s (d + 1)) :
    Calls Tryz.prog 134 #[.pointer (some ⟨b,0,none⟩)] w fun e w'=>∃ v r,e=.returned (.int .i64 v)∧G.R s st.env (.seq []) st.deep st.i st.T r∧ReadPost w b s S st r (10 * (41 - d) + 8) v w':=by
  obtain ⟨i0,hi,hz0,hz1,hz2⟩:=info_parts infoInt
  obtain ⟨he0,hile,hTl,hwf,henv⟩:=hP
  have HD:Hid (st.deep=d):=hd
  clear hd
  go_enter Tryz.func134,Tryz.ntmps134
  go_wp2
  go_loopw [3] (fun pv wr=>∃ (ps:List Nat) (S1:Nat→Prop) (st1:St),Rd wr b s S1 st1∧Evo w S wr S1∧Loc wr S1 w.heap.size pv ps∧st1.deep=st.deep∧st1.env=st.env∧st1.rules=st.rules∧(∀ p ∈ ps,p < st1.T.length)∧ps.length≤st1.i ∧
      st1.err=0∧st1.place=st.place∧st1.i≤s.size∧st1.T.length≤4 * st1.i∧G.WF st1.T∧st.T.length≤st1.T.length∧∀ r,G.R s st.env (.seq ps) st.deep st1.i st1.T r→G.R s st.env (.seq []) st.deep st.i st.T r)
    (fun _ wr=>runM b wr)
  case atStart=>exact ⟨[],S,st,hR,Evo.refl _ _,Loc.nil _ _ _,rfl,rfl,rfl,by simp,by simp,he0,rfl,hile,hTl,hwf,Nat.le_refl _,fun r h=>h⟩
  case round =>
    obtain ⟨ps,S1,st1,hR1,hE1,hL1,hd1,hev1,hru1,hps1,hpl1,e1,pl1,i1,T1,wf1,Tl1,k1⟩:=hrel
    obtain ⟨c0,c1,c2,c3,c4,fr⟩:=hR1.reads
    obtain ⟨pa,pc,hpe⟩:=own_len hL1.own
    subst hpe
    rw [e1] at c2
    have HR:Hid (runM b wr=3001 - st1.i):=hR1.runOk e1
    have hP1:Pre s st1:=⟨e1,i1,T1,wf1,by rw [hev1];intro x hx;have:=henv x hx;omega⟩
    have henv1:∀ x ∈ st.env,x.2 < st1.T.length:=fun x hx=>by have:=henv x hx;omega
    have hb0:w.heap.size≤wr.heap.size:=hE1.kept.size
    have hkl:=G.skip_le s st1.i i1
    have hkg:=G.skip_ge s st1.i
    cases hat:G.atomic (G.pk s (G.skip s st1.i)) with
    | false =>
      have hN:=atom_none wr b s S1 st1 d hR1 hs hP1 (by rw [hev1];exact hev) (by rw [hd1];exact HD.out) hd40 hat
      by_cases hps:ps=[]
      · subst hps
        have HG:Hid (G.R s st.env (.seq []) st.deep st.i st.T (.err 2 (G.skip s st1.i))):=k1 _ (G.R.seqForm hat)
        have hfa:failed { st1 with i:=G.skip s st1.i } 2 (G.skip s st1.i)={ st1 with i:=G.skip s st1.i,err:=2,place:=G.skip s st1.i }:=by rw [failed,if_pos e1]
        have HF:Hid _:=hfa
        clear hfa k1
        go_wp2_with (first
          | (go_at_call 146;refine hN.mono ?_;rintro e w1 ⟨rfl,hE2,hR2⟩;clear c0 c1 c2 c3 c4 fr;obtain ⟨c0,c1,c2,c3,c4,fr⟩:=hR2.reads)
          | (go_at_call 110;refine (fail_any w1 b s S1 _ 2 (G.skip s st1.i) hR2).mono ?_;rw [HF.out];rintro e w3 ⟨rfl,hR3,hE3⟩))
        go_ret
        exact ⟨_,_,rfl,HG.out,S1,_,hR3,(hE1.trans hE2).trans hE3,hd1,hev1,hru1,rfl,rfl,by omega,by show G.skip s st1.i≤_;omega,by show st1.T.length≤_;omega,wf1.le,Tl1⟩
      · have HG:Hid (G.R s st.env (.seq []) st.deep st.i st.T _):=k1 _ (G.R.seqEnd hat hps)
        have hlen:¬ ps.length=0:=by simpa using hps
        clear k1
        go_wp2_with (first
          | (go_at_call 135;refine hN2.mono ?_;rintro e w5 ⟨rfl,S5,hR5,hE5⟩)
          | (go_at_call 146;refine hN.mono ?_;rintro e w1 ⟨rfl,hE2,hR2⟩;clear c0 c1 c2 c3 c4 fr;obtain ⟨c0,c1,c2,c3,c4,fr⟩:=hR2.reads;have hN2:=nodeP_any w1 b s S1 _ 113 w.heap.size (.slice pa ps.length pc) ps hR2 (hL1.evo hE2) hps1 (by show st1.T.length≤_;omega) (by omega) wf1.le w S (hE1.trans hE2) (Nat.le_refl _)))
        go_ret
        exact ⟨_,_,rfl,HG.out,S5,_,hR5,hE5,hd1,hev1,hru1,rfl,st_eq (e1.trans he0.symm) pl1 hd1 hev1 hru1 _ _⟩
    | true =>
      have hN:=atom_any wr b s S1 st1 d hR1 hs hP1 (by rw [hev1];exact hev) (by rw [hd1];exact HD.out) hd40 hIH hat
      rw [hev1,hd1] at hN
      go_wp2_with (first
        | (go_at_call 146
           refine hN.mono ?_
           rintro e w1 ⟨v,r,rfl,hr,S2,st2,hR2,hE2,hd2,hev2,hru2,hm⟩
           clear c0 c1 c2 c3 c4 fr
           obtain ⟨c0,c1,c2,c3,c4,fr⟩:=hR2.reads
           cases r
           case' ok n j T' =>
             obtain ⟨rfl,rfl⟩:=hm
             have hfn:=hr.fine hkl wf1 (by simp [G.NT.parts]) (by simp [G.NT.ranges]) henv1
             obtain ⟨f1,f2,f3,f4,⟨X,hX⟩,f6⟩:=hfn
             simp only [G.NT.sl,G.NT.sr] at f6
             have hXl:st1.T.length≤T'.length:=by rw [hX];simp
             have HX0:Hid (T'=st1.T ++ X):=hX
             clear hX hd2 hev2 hru2
             have hkl2:=G.skip_le s j f2
             have hkg2:=G.skip_ge s j
             have hsee:seeV s ({ st1 with i:=G.skip s j,T:=T' }:St)=G.pk s (G.skip s j):=seeV_ok (st:=({ st1 with i:=G.skip s j,T:=T' }:St)) e1
             have HG:Hid _:=hr
             clear hr
           case' err c p =>
             obtain ⟨z1,z2,z3,z4,z5,z6,z7⟩:=hm
             have zb:((st2.err:Int) != 0)=true:=by simp;omega
             have zb2:¬ st2.err=0:=by omega
             have zi:st2.i≤2100 + (10 * (41 - d) + 5):=z4
             have zt:st2.T.length≤8100 + (10 * (41 - d) + 5):=z5
             have HZ:Hid _:=And.intro z1 (And.intro z2 z3)
             clear z1 z2 z3 z4 z5
             have hfn:=hr.fine hkl wf1 (by simp [G.NT.parts]) (by simp [G.NT.ranges]) henv1
             have HG:Hid _:=k1 _ (G.R.seqErr hat hr)
             clear hr
             have hNq:=nodeP_any w1 b s S2 st2 113 w.heap.size (.slice pa ps.length pc) ps hR2 (hL1.evo hE2) (fun p hp=>by have:=hps1 p hp;omega) (by omega) (by omega) z6 w S (hE1.trans hE2) (Nat.le_refl _)
             have hfq:=fail_any w1 b s S2 st2 2 st2.i hR2
             rw [show failed st2 2 st2.i=st2 by rw [failed,if_neg zb2]] at hfq)
        | (go_at_call 135;refine hNq.mono ?_;rintro e w5 ⟨rfl,S5,hR5,hE5⟩)
        | (go_at_call 135;refine hNr.mono ?_;rintro e w5 ⟨rfl,S5,hR5,hE5⟩;have HXr:Hid _:=And.intro hR5 hE5;clear hR5 hE5)
        | (go_at_call 80;refine (skip_any w1 b s S2 ({ st1 with i:=j,T:=T' }:St) hR2 hs f2 e1).mono ?_;rintro e w2 ⟨rfl,hR3,hE3⟩;clear c0 c1 c2 c3 c4 fr;obtain ⟨c0,c1,c2,c3,c4,fr⟩:=hR3.reads)
        | (go_at_call 107
           refine (see_any w2 b s S2 ({ st1 with i:=G.skip s j,T:=T' }:St) hR3 hs (by show G.skip s j≤_;omega)).mono ?_
           rw [hsee]
           rintro e w3 ⟨rfl,n3,rfl⟩
           have hE23:=(hE2.trans hE3).drewN n3
           have hSb2:=hR3.inS.1
           rcases rep_cases s (G.skip s j) with hq | hq | hq | ⟨hq1,hq2,hq3⟩
           all_goals first
             | (have hEr:=(hE23.set hSb2 (by rcases hE23.new b hSb2 with h | h;exact .inl h;exact .inr h) 1 (.int .i64 ((G.skip s j:Int) + 1))).alloc (.cells #[.int .i64 (n:Int)] 3)
                have hRr:=((hR3.drewN n3).inc).alloc (.cells #[.int .i64 (n:Int)] 3)
                have hsz5:((w2.drewN n3).setCell ⟨b,1,none⟩ (.int .i64 ((G.skip s j:Int) + 1))).heap.size=w2.heap.size:=by simp [World.setCell]
                have hlr:Loc (((w2.drewN n3).setCell ⟨b,1,none⟩ (.int .i64 ((G.skip s j:Int) + 1))).alloc (.cells #[.int .i64 (n:Int)] 3)) S2 w2.heap.size (.slice (some ⟨w2.heap.size,0,none⟩) 1 1) [n]:=⟨by have:=own_new ((w2.drewN n3).setCell ⟨b,1,none⟩ (.int .i64 ((G.skip s j:Int) + 1))) ((w2.drewN n3).setCell ⟨b,1,none⟩ (.int .i64 ((G.skip s j:Int) + 1))).heap.size 3 1 1 #[.int .i64 (n:Int)] (Nat.le_refl _) rfl (by unfold maxLen;omega);rw [hsz5] at this;exact this,fun k e h2=>by have:=hR3.lt k h2;simp [Value.ownBlock] at e;omega⟩
                clear hsz5
                have hNr:=nodeP_any _ b s S2 _ (G.pk s (G.skip s j)).toNat w2.heap.size (.slice (some ⟨w2.heap.size,0,none⟩) 1 1) [n] hRr hlr (by simpa using f3) (by show T'.length≤_;omega) (by simp) f4.le wr S1 hEr hE23.kept.size
                rw [hq] at hNr)
             | (have HXn:Hid _:=And.intro (hR3.drewN n3) hE23))
        | (go_at_call 110;refine hfq.mono ?_;rintro e w5 ⟨rfl,hR5,hE5⟩)
        | (at_builtin
           have hL2:=hL1.evo HXr.out.2
           have hsz2:=HXr.out.2.kept.size
           refine wpList_append_own_at _ rfl (.tmp 50) (.tmp 52) 33 rfl w.heap.size 3 i0 (.int .i64 0) 1 8 Tryz.underlying33 hi hz0 hz1 hz2 rfl (by decide) _ _ _ rfl (hL2.own.alloc _) ⟨(w5).heap.size,0,none⟩ 1 1 [.int .i64 (T'.length:Int)] rfl rfl (cell_one_new _ _ _) (fun y hy=>by simp at hy;subst hy;rfl) (by unfold maxLen;omega) (by omega) (by simp at hsz2 ⊢;omega) ?_
           intro v1 w6 hn1 hg1 _ hat1
           obtain ⟨hL3,hR6,hE6⟩:=hL2.add HXr.out.1 T'.length ((Kept.refl _ _).alloc _) (by simp) hn1 hg1 hat1
           have HL3:Hid _:=And.intro hL3 (And.intro hR6 (hE6 w S (hE1.trans HXr.out.2) (Nat.le_refl _)))
           clear hn1 hg1 hat1 hL3 hE6 hR6 hL2)
        | (at_builtin
           have hL2:=hL1.evo HXn.out.2
           have hsz2:=HXn.out.2.kept.size
           refine wpList_append_own_at _ rfl (.tmp 50) (.tmp 52) 33 rfl w.heap.size 3 i0 (.int .i64 0) 1 8 Tryz.underlying33 hi hz0 hz1 hz2 rfl (by decide) _ _ _ rfl (hL2.own.alloc _) ⟨(w2.drewN n3).heap.size,0,none⟩ 1 1 [.int .i64 (n:Int)] rfl rfl (cell_one_new _ _ _) (fun y hy=>by simp at hy;subst hy;rfl) (by unfold maxLen;omega) (by omega) (by simp at hsz2 ⊢;omega) ?_
           intro v1 w6 hn1 hg1 _ hat1
           obtain ⟨hL3,hR6,hE6⟩:=hL2.add HXn.out.1 n ((Kept.refl _ _).alloc _) (by simp) hn1 hg1 hat1
           have HL3:Hid _:=And.intro hL3 (And.intro hR6 (hE6 w S (hE1.trans HXn.out.2) (Nat.le_refl _)))
           clear hn1 hg1 hat1 hL3 hE6 hR6 hL2))
      all_goals first
        | (go_ret
           exact ⟨_,_,rfl,HG.out,S2,_,hR5,(hE1.trans hE2).trans hE5,hd2.trans hd1,hev2.trans hev1,hru2.trans hru1,HZ.out.1,HZ.out.2.1,HZ.out.2.2,by omega,by omega,z6,by omega⟩)
        | (go_ret
           exact ⟨_,_,rfl,HG.out,S5,_,hR5,hE5,hd2.trans hd1,hev2.trans hev1,hru2.trans hru1,HZ.out.1,HZ.out.2.1,HZ.out.2.2,by show st2.i≤_;omega,by simp;omega,mk_le _ _ _ _ _ z6,by simp;omega⟩)
        | (have hrep:G.repeats (G.pk s (G.skip s j))=true:=by rw [hq];rfl
           have hlt:=G.lt_of_pk (s:=s) (i:=G.skip s j) (by rw [hq];decide)
           refine ⟨⟨ps ++ [T'.length],S5,_,HL3.out.2.1,HL3.out.2.2,HL3.out.1,hd1,hev1,hru1,lt_snoc _ _ _ (fun p hp=>by have:=hps1 p hp;omega),by show _≤G.skip s j + 1;simp;omega,e1,pl1,hlt,by show _≤4 * (G.skip s j + 1);simp;omega,f4.snoc _ [] false [n] (by simpa using f3) (by simp) (.inr (.inr ⟨by decide,rfl⟩)),by show _≤(T' ++ _).length;simp;omega,fun r hr=>k1 r (G.R.seqRep hat HG.out hrep (by rw [hq];exact hr))⟩,?_⟩
           rw [HL3.out.2.1.runOk e1,HR.out]
           show 3001 - (G.skip s j + 1) < _
           omega)
        | (have hrep:G.repeats (G.pk s (G.skip s j))=false:=by simp at hq1 hq2 hq3;simp [G.repeats,hq1,hq2,hq3]
           refine ⟨⟨ps ++ [n],S2,_,HL3.out.2.1,HL3.out.2.2,HL3.out.1,hd1,hev1,hru1,?_,by show _≤G.skip s j;simp;omega,e1,pl1,hkl2,by show T'.length≤4 * G.skip s j;omega,f4,by show _≤T'.length;omega,fun r hr=>k1 r (G.R.seqItem hat HG.out hrep hr)⟩,?_⟩
           · intro p hp
             rcases List.mem_append.1 hp with hp | hp
             · have:=hps1 p hp
               show p < T'.length
               omega
             · simp only [List.mem_singleton] at hp
               subst hp
               exact f3
           · rw [HL3.out.2.1.runOk e1,HR.out]
             show 3001 - G.skip s j < _
             omega)
end Rf
end Go.Proofs.YtpgcidpghmoibaaGreatDoor

namespace Go.Proofs.YtpgcidpghmoibaaGreatDoor
namespace Rf
open Go.RowKit
open G (PNode)
set_option maxRecDepth 100000 in
set_option maxHeartbeats 4000000 in
theorem expr_at (b:Nat) (s:ByteArray) (d:Nat) (hs:s.size≤2000) (hd40:d≤40) (hIH:d < 40→ExprAt b s (d + 1)):ExprAt b s d:=by
  intro w S st hR hP hev hd
  obtain ⟨i0,hi,hz0,hz1,hz2⟩:=info_parts infoInt
  obtain ⟨he0,hile,hTl,hwf,henv⟩:=hP
  have HD:Hid (st.deep=d):=hd
  clear hd
  go_enter Tryz.func111,Tryz.ntmps111
  go_wp2
  go_loopw [3] (fun pv wr=>∃ (ps:List Nat) (S1:Nat→Prop) (st1:St),Rd wr b s S1 st1∧Evo w S wr S1∧Loc wr S1 w.heap.size pv ps∧st1.deep=st.deep∧st1.env=st.env∧st1.rules=st.rules∧(∀ p ∈ ps,p < st1.T.length)∧ps.length≤st1.i ∧
      st1.err=0∧st1.place=st.place∧st1.i≤s.size∧st1.T.length≤4 * st1.i∧G.WF st1.T∧st.T.length≤st1.T.length∧∀ r,G.R s st.env (.expr ps) st.deep st1.i st1.T r→G.R s st.env (.expr []) st.deep st.i st.T r)
    (fun _ wr=>runM b wr)
  case atStart=>exact ⟨[],S,st,hR,Evo.refl _ _,Loc.nil _ _ _,rfl,rfl,rfl,by simp,by simp,he0,rfl,hile,hTl,hwf,Nat.le_refl _,fun r h=>h⟩
  case round =>
    obtain ⟨ps,S1,st1,hR1,hE1,hL1,hd1,hev1,hru1,hps1,hpl1,e1,pl1,i1,T1,wf1,Tl1,k1⟩:=hrel
    obtain ⟨c0,c1,c2,c3,c4,fr⟩:=hR1.reads
    obtain ⟨pa,pc,hpe⟩:=own_len hL1.own
    subst hpe
    rw [e1] at c2
    have HR:Hid (runM b wr=3001 - st1.i):=hR1.runOk e1
    have hP1:Pre s st1:=⟨e1,i1,T1,wf1,by rw [hev1];intro x hx;have:=henv x hx;omega⟩
    have henv1:∀ x ∈ st.env,x.2 < st1.T.length:=fun x hx=>by have:=henv x hx;omega
    have hb0:w.heap.size≤wr.heap.size:=hE1.kept.size
    have hN:=seq_any wr b s S1 st1 d hR1 hs hP1 (by rw [hev1];exact hev) (by rw [hd1];exact HD.out) hd40 hIH
    rw [hev1,hd1] at hN
    go_wp2_with (first
      | (go_at_call 134
         refine hN.mono ?_
         rintro e w1 ⟨v,r,rfl,hr,S2,st2,hR2,hE2,hd2,hev2,hru2,hm⟩
         clear c0 c1 c2 c3 c4 fr
         obtain ⟨c0,c1,c2,c3,c4,fr⟩:=hR2.reads
         cases r
         case' ok n j T' =>
           obtain ⟨rfl,rfl⟩:=hm
           have hfn:=hr.fine i1 wf1 (by simp [G.NT.parts]) (by simp [G.NT.ranges]) henv1
           obtain ⟨f1,f2,f3,f4,⟨X,hX⟩,f6⟩:=hfn
           simp only [G.NT.sl,G.NT.sr,↓reduceIte] at f6
           have hXl:st1.T.length≤T'.length:=by rw [hX];simp
           clear hX hd2 hev2 hru2
           have hkl2:=G.skip_le s j f2
           have hkg2:=G.skip_ge s j
           have hsee:seeV s ({ st1 with i:=G.skip s j,T:=T' }:St)=G.pk s (G.skip s j):=seeV_ok (st:=({ st1 with i:=G.skip s j,T:=T' }:St)) e1
           have HG:Hid _:=hr
           clear hr
         case' err c p =>
           obtain ⟨z1,z2,z3,z4,z5,z6,z7⟩:=hm
           have zb:((st2.err:Int) != 0)=true:=by simp;omega
           have HG:Hid _:=k1 _ (G.R.exprErr hr)
           have HZ:Hid _:=And.intro z1 (And.intro z2 z3)
           clear hr z1 z2 z3)
      | (at_builtin
         have hL2:=hL1.evo hE2
         have hsz2:=hE2.kept.size
         refine wpList_append_own_at _ rfl (.tmp 18) (.tmp 20) 33 rfl w.heap.size 3 i0 (.int .i64 0) 1 8 Tryz.underlying33 hi hz0 hz1 hz2 rfl (by decide) _ _ _ rfl (hL2.own.alloc _) ⟨w1.heap.size,0,none⟩ 1 1 [.int .i64 (n:Int)] rfl rfl (cell_one_new _ _ _) (fun y hy=>by simp at hy;subst hy;rfl) (by unfold maxLen;omega) (by omega) (by simp;omega) ?_
         intro v1 w6 hn1 hg1 _ hat1
         obtain ⟨hL3,hR6,hE6⟩:=hL2.add hR2 n ((Kept.refl _ _).alloc _) (by simp) hn1 hg1 hat1
         obtain ⟨va,vc,hve⟩:=hL3.form (ps.length + 1) (by simp)
         subst hve
         have hE7:=hE6 w S (hE1.trans hE2) (Nat.le_refl _)
         clear hn1 hg1 hat1 hE6 hL2)
      | (go_at_call 80;refine (skip_any w6 b s S2 ({ st1 with i:=j,T:=T' }:St) hR6 hs f2 e1).mono ?_;rintro e w2 ⟨rfl,hR3,hE3⟩;clear c0 c1 c2 c3 c4 fr;obtain ⟨c0,c1,c2,c3,c4,fr⟩:=hR3.reads)
      | (go_at_call 107
         refine (see_any w2 b s S2 ({ st1 with i:=G.skip s j,T:=T' }:St) hR3 hs (by show G.skip s j≤_;omega)).mono ?_
         rw [hsee]
         rintro e w3 ⟨rfl,n3,rfl⟩
         have hps2:∀ p ∈ ps ++ [n],p < T'.length:=by
           intro p hp
           rcases List.mem_append.1 hp with hp | hp
           · have:=hps1 p hp
             omega
           · simp only [List.mem_singleton] at hp
             subst hp
             exact f3
         by_cases hq:G.pk s (G.skip s j)=124
         case' neg =>
           have hqb:(G.pk s (G.skip s j) != 124)=true:=by simpa using hq
           have hNq:=nodeP_any (w2.drewN n3) b s S2 _ 99 w.heap.size (.slice va (ps.length + 1) vc) (ps ++ [n]) (hR3.drewN n3) (hL3.evo (hE3.drewN n3)) hps2 (by show T'.length≤_;omega) (by simp;omega) f4.le w S (hE7.trans (hE3.drewN n3)) (Nat.le_refl _))
      | (go_at_call 135;refine hNq.mono ?_;rintro e w5 ⟨rfl,S5,hR5,hE5⟩))
    all_goals first
      | (go_ret
         exact ⟨_,_,rfl,HG.out,S2,_,hR2,hE1.trans hE2,hd2.trans hd1,hev2.trans hev1,hru2.trans hru1,HZ.out.1,HZ.out.2.1,HZ.out.2.2,by omega,by omega,z6,by omega⟩)
      | (go_ret
         exact ⟨_,_,rfl,k1 _ (G.R.exprEnd HG.out hq),S5,_,hR5,hE5,hd1,hev1,hru1,rfl,st_eq (e1.trans he0.symm) pl1 hd1 hev1 hru1 _ _⟩)
      | (have hlt:=G.lt_of_pk (s:=s) (i:=G.skip s j) (by rw [hq];decide)
         have hSb2:=hR3.inS.1
         have hEa:=(hE3.drewN n3).set hSb2 (.inl hSb2) 1 (.int .i64 ((G.skip s j:Int) + 1))
         refine ⟨⟨ps ++ [n],S2,_,(hR3.drewN n3).inc,hE7.trans hEa,hL3.evo hEa,hd1,hev1,hru1,hps2,by show _≤G.skip s j + 1;simp;omega,e1,pl1,hlt,by show T'.length≤4 * (G.skip s j + 1);omega,f4,by show _≤T'.length;omega,fun r hr=>k1 r (G.R.exprMore HG.out hq hr)⟩,?_⟩
         rw [(hR3.drewN n3).inc.runOk e1,HR.out]
         show 3001 - (G.skip s j + 1) < _
         omega)
theorem expr_all (b:Nat) (s:ByteArray) (hs:s.size≤2000):∀ (k d:Nat),d≤40→40 - d≤k→ExprAt b s d
  | 0,d,h1,h2=>expr_at b s d hs h1 (fun h=>by omega)
  | k + 1,d,h1,h2=>expr_at b s d hs h1 (fun h=>expr_all b s hs k (d + 1) (by omega) (by omega))
set_option maxRecDepth 100000 in
set_option maxHeartbeats 1000000 in
theorem expr_no (w:World) (b:Nat) (s:ByteArray) (S:Nat→Prop) (st:St) (hR:Rd w b s S st) (h0:st.err ≠ 0) (hTl:st.T.length≤100000) (hsz:∀ x ∈ st.T,x.size≤101) :
    Calls Tryz.prog 111 #[.pointer (some ⟨b,0,none⟩)] w fun e w'=>e=.returned (.int .i64 (st.T.length:Int))∧∃ S',Rd w' b s S' { st with T:=st.T ++ [G.mk st.T 99 [] false []] }∧Evo w S w' S':=by
  obtain ⟨c0,c1,c2,c3,c4,fr⟩:=hR.reads
  have h0':¬ (st.err:Int)=0:=by omega
  have hN:=nodeP_any w b s S st 99 w.heap.size (.slice none 0 0) [] hR (Loc.nil _ _ _) (by simp) hTl (by simp) hsz w S (Evo.refl _ _) (Nat.le_refl _)
  go_enter Tryz.func111,Tryz.ntmps111
  go_wp2
  go_loopw [3] (fun pv wr=>pv=.slice none 0 0∧wr=w) (fun _ _=>0)
  case atStart=>exact ⟨rfl,rfl⟩
  case round =>
    obtain ⟨rfl,rfl⟩:=hrel
    go_wp2_with (go_at_call 135;refine hN.mono ?_;rintro e w5 ⟨rfl,S5,hR5,hE5⟩)
    go_ret
    exact ⟨rfl,S5,hR5,hE5⟩
end Rf
end Go.Proofs.YtpgcidpghmoibaaGreatDoor
