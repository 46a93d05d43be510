/-
  THE REFERENCE's READER
-/
import Derived.Test.YtpgcidpghmoibaaGreatDoorK12
namespace Go.Proofs.YtpgcidpghmoibaaGreatDoor
namespace Rf
open Go.RowKit
open G (PNode)
theorem st_eq {st1 st:St} (h1:st1.err=st.err) (h2:st1.place=st.place) (h3:st1.deep=st.deep) (h4:st1.env=st.env) (h5:st1.rules=st.rules) (i:Nat) (T:List PNode):({ st1 with i:=i,T:=T }:St)={ st with i:=i,T:=T }:=by
  rw [h1,h2,h3,h4,h5]
set_option maxRecDepth 100000 in
set_option maxHeartbeats 2000000 in
theorem quote_any (w:World) (b:Nat) (s:ByteArray) (S:Nat→Prop) (st:St) (hR:Rd w b s S st) (hs:s.size≤2000) (hP:Pre s st) :
    Calls Tryz.prog 150 #[.pointer (some ⟨b,0,none⟩)] w fun e w'=>∃ v r,e=.returned (.int .i64 v)∧G.R s st.env (.quote []) st.deep st.i st.T r∧ReadPost w b s S st r 10 v w':=by
  obtain ⟨i0,hi,hz0,hz1,hz2⟩:=info_parts infoInt
  obtain ⟨he0,hile,hTl,hwf,henv⟩:=hP
  go_enter Tryz.func150,Tryz.ntmps150
  go_wp2
  go_loopw [3] (fun pv wr=>∃ (ps:List Nat) (S1:Nat→Prop) (st1:St),Rd wr b s S1 st1∧Evo w S wr S1∧Loc wr S1 w.heap.size pv ps∧st1.deep=st.deep∧st1.env=st.env∧st1.rules=st.rules∧(∀ p ∈ ps,p < st1.T.length)∧ps.length≤st1.T.length ∧
      ((st1.err=0∧st1.place=st.place∧st1.i≤s.size∧st1.T.length≤4 * st1.i∧G.WF st1.T∧st.T.length≤st1.T.length∧∀ r,G.R s st.env (.quote ps) st.deep st1.i st1.T r→G.R s st.env (.quote []) st.deep st.i st.T r) ∨
       (st1.err=2∧st1.i≤2100∧st1.T.length≤8001∧(∀ x ∈ st1.T,x.size≤101)∧st.T.length≤st1.T.length∧G.R s st.env (.quote []) st.deep st.i st.T (.err 2 st1.place))))
    (fun _ wr=>runM b wr)
  case atStart=>exact ⟨[],S,st,hR,Evo.refl _ _,Loc.nil _ _ _,rfl,rfl,rfl,by simp,by simp,.inl ⟨he0,rfl,hile,hTl,hwf,Nat.le_refl _,fun r h=>h⟩⟩
  case round =>
    obtain ⟨ps,S1,st1,hR1,hE1,hL1,hd1,hev1,hru1,hps1,hpl1,hmode⟩:=hrel
    obtain ⟨c0,c1,c2,c3,c4,fr⟩:=hR1.reads
    obtain ⟨pa,pc,hpe⟩:=own_len hL1.own
    subst hpe
    rcases hmode with ⟨e1,pl1,i1,T1,wf1,Tl1,k1⟩ | ⟨e1,i1,T1,sz1,Tl1,k1⟩
    · rw [e1] at c2
      have hC:=char_any wr b s S1 st1 39 39 hR1 hs i1 e1
      have hb0:w.heap.size≤wr.heap.size:=hE1.kept.size
      have HR:Hid (runM b wr=3001 - st1.i):=hR1.runOk e1
      cases hch:G.chr s 39 39 st1.i with
      | none =>
        rw [show G.chr s ((39:Nat):Int) ((39:Nat):Int) st1.i=none from hch] at hC
        have kerr:=k1 _ (G.R.quoteErr hch)
        have HK:Hid _:=And.intro kerr (And.intro hE1 (And.intro hL1 wf1))
        clear k1 kerr
        go_wp2_with (first
          | (go_at_call 158;refine hC.mono ?_;rintro e w1 ⟨hEc,x,m,rfl,hm,hRc⟩)
          | (go_at_call 135
             refine (nodeS_any (w1.alloc (.cells #[.int .i64 (x:Int),.int .i64 (x:Int)] 201)) b s S1 { st1 with i:=m,err:=2,place:=st1.i } false w1.heap.size (.slice (some ⟨w1.heap.size,0,none⟩) 1 1) [(x,x)] (hRc.alloc _) (own_new w1 w1.heap.size 201 2 1 _ (Nat.le_refl _) rfl (by unfold maxLen;omega)) (fun i e h2=>by have:=hRc.lt i h2;simp [Value.ownBlock] at e;omega) (by show st1.T.length≤_;omega) HK.out.2.2.2.le wr S1 (hEc.alloc _) hEc.kept.size).mono ?_
             rintro e w2 ⟨rfl,S2,hR2,E12⟩)
          | (at_builtin
             have hL2:=HK.out.2.2.1.evo E12
             have hsz2:=E12.kept.size
             refine wpList_append_own_at _ rfl (.tmp 21) (.tmp 23) 33 rfl w.heap.size 3 i0 (.int .i64 0) 1 8 Tryz.underlying33 hi hz0 hz1 hz2 rfl (by decide) _ _ _ rfl (hL2.own.alloc _) ⟨w2.heap.size,0,none⟩ 1 1 [.int .i64 (st1.T.length:Int)] rfl rfl (cell_one_new _ _ _) (fun y hy=>by simp at hy;subst hy;rfl) (by unfold maxLen;omega) (by omega) (by simp;omega) ?_
             intro v1 w3 hn1 hg1 _ hat1
             obtain ⟨hL3,hR3,hE3⟩:=hL2.add hR2 st1.T.length ((Kept.refl _ _).alloc _) (by simp) hn1 hg1 hat1
             obtain ⟨va,vc,hve⟩:=hL3.form (ps.length + 1) (by simp)
             subst hve
             have HL3:Hid _:=And.intro hL3 (hE3 w S (HK.out.2.1.trans E12) (Nat.le_refl _))
             clear hn1 hg1 hat1 hL3 hE3 hL2 E12)
          | (go_at_call 107;refine (see_any w3 b s S2 _ hR3 hs (by show m≤_;omega)).mono ?_;rw [seeV_no (by show (2:Nat) ≠ 0;omega)];rintro e w4 ⟨rfl,n4,rfl⟩))
        go_roundw
        case rel =>
          exact ⟨ps ++ [st1.T.length],S2,_,hR3.drewN _,HL3.out.2.drewN _,HL3.out.1.evo ((Evo.refl _ _).drewN _),hd1,hev1,hru1,lt_snoc _ _ _ hps1,by simp;omega,.inr ⟨rfl,by show m≤_;omega,by simp;omega,mk_le _ _ _ _ _ HK.out.2.2.2.le,by simp;omega,HK.out.1⟩⟩
        case measure =>
          rw [(hR3.drewN _).runNo (by show (2:Nat) ≠ 0;omega),HR.out]
          omega
      | some xj =>
        obtain ⟨x,j⟩:=xj
        rw [show G.chr s ((39:Nat):Int) ((39:Nat):Int) st1.i=some (x,j) from hch] at hC
        have hbd:=G.chr_bd hch
        have HK:Hid _:=And.intro k1 (And.intro hE1 (And.intro hL1 wf1))
        clear k1
        have hwf2:=wf1.snoc 115 [(x,x)] false [] (by simp) (by simpa using hbd.2.2) (.inl ⟨rfl,rfl⟩)
        by_cases h39:G.pk s j=39
        · have hsee:seeV s { st1 with i:=j,T:=st1.T ++ [G.mk st1.T 115 [(x,x)] false []] }=39:=(seeV_ok (st:={ st1 with i:=j,T:=st1.T ++ [G.mk st1.T 115 [(x,x)] false []] }) e1).trans h39
          go_wp2_with (first
            | (go_at_call 135;refine hN.mono ?_;rintro e w5 ⟨rfl,S5,hR5,hE5⟩)
            | (go_at_call 158;refine hC.mono ?_;rintro e w1 ⟨hEc,rfl,hRc⟩)
            | (go_at_call 135
               refine (nodeS_any (w1.alloc (.cells #[.int .i64 (x:Int),.int .i64 (x:Int)] 201)) b s S1 { st1 with i:=j } false w1.heap.size (.slice (some ⟨w1.heap.size,0,none⟩) 1 1) [(x,x)] (hRc.alloc _) (own_new w1 w1.heap.size 201 2 1 _ (Nat.le_refl _) rfl (by unfold maxLen;omega)) (fun i e h2=>by have:=hRc.lt i h2;simp [Value.ownBlock] at e;omega) (by show st1.T.length≤_;omega) HK.out.2.2.2.le wr S1 (hEc.alloc _) hEc.kept.size).mono ?_
               rintro e w2 ⟨rfl,S2,hR2,E12⟩)
            | (at_builtin
               have hL2:=HK.out.2.2.1.evo E12
               have hsz2:=E12.kept.size
               refine wpList_append_own_at _ rfl (.tmp 21) (.tmp 23) 33 rfl w.heap.size 3 i0 (.int .i64 0) 1 8 Tryz.underlying33 hi hz0 hz1 hz2 rfl (by decide) _ _ _ rfl (hL2.own.alloc _) ⟨w2.heap.size,0,none⟩ 1 1 [.int .i64 (st1.T.length:Int)] rfl rfl (cell_one_new _ _ _) (fun y hy=>by simp at hy;subst hy;rfl) (by unfold maxLen;omega) (by omega) (by simp;omega) ?_
               intro v1 w3 hn1 hg1 _ hat1
               obtain ⟨hL3,hR3,hE3⟩:=hL2.add hR2 st1.T.length ((Kept.refl _ _).alloc _) (by simp) hn1 hg1 hat1
               obtain ⟨va,vc,hve⟩:=hL3.form (ps.length + 1) (by simp)
               subst hve
               have HL3:Hid _:=And.intro hL3 (hE3 w S (HK.out.2.1.trans E12) (Nat.le_refl _))
               clear hn1 hg1 hat1 hL3 hE3 hL2 E12)
            | (go_at_call 107;refine (see_any w3 b s S2 _ hR3 hs (by show j≤_;omega)).mono ?_;rw [hsee];rintro e w4 ⟨rfl,n4,rfl⟩;clear c0 c1 c2 c3 c4 fr;obtain ⟨c0,c1,c2,c3,c4,fr⟩:=hR3.reads;have E34:=((Evo.refl w3 S2).drewN n4).set hR3.inS.1 (.inl hR3.inS.1) 1 (.int .i64 ((j:Int) + 1));have hN:=nodeP_any _ b s S2 _ 113 w.heap.size _ _ (hR3.drewN n4).inc (HL3.out.1.evo E34) (lt_snoc _ _ _ hps1) (by simp;omega) (by simp;omega) hwf2.le w S (HL3.out.2.trans E34) (Nat.le_refl _)))
          go_ret
          exact ⟨_,_,rfl,HK.out.1 _ (G.R.quoteEnd hch h39),S5,_,hR5,hE5,hd1,hev1,hru1,rfl,st_eq (e1.trans he0.symm) pl1 hd1 hev1 hru1 _ _⟩
        · have hsee:seeV s { st1 with i:=j,T:=st1.T ++ [G.mk st1.T 115 [(x,x)] false []] }=G.pk s j:=seeV_ok (st:={ st1 with i:=j,T:=st1.T ++ [G.mk st1.T 115 [(x,x)] false []] }) e1
          have h39':(G.pk s j == 39)=false:=by simpa using h39
          go_wp2_with (first
            | (go_at_call 158;refine hC.mono ?_;rintro e w1 ⟨hEc,rfl,hRc⟩)
            | (go_at_call 135
               refine (nodeS_any (w1.alloc (.cells #[.int .i64 (x:Int),.int .i64 (x:Int)] 201)) b s S1 { st1 with i:=j } false w1.heap.size (.slice (some ⟨w1.heap.size,0,none⟩) 1 1) [(x,x)] (hRc.alloc _) (own_new w1 w1.heap.size 201 2 1 _ (Nat.le_refl _) rfl (by unfold maxLen;omega)) (fun i e h2=>by have:=hRc.lt i h2;simp [Value.ownBlock] at e;omega) (by show st1.T.length≤_;omega) HK.out.2.2.2.le wr S1 (hEc.alloc _) hEc.kept.size).mono ?_
               rintro e w2 ⟨rfl,S2,hR2,E12⟩)
            | (at_builtin
               have hL2:=HK.out.2.2.1.evo E12
               have hsz2:=E12.kept.size
               refine wpList_append_own_at _ rfl (.tmp 21) (.tmp 23) 33 rfl w.heap.size 3 i0 (.int .i64 0) 1 8 Tryz.underlying33 hi hz0 hz1 hz2 rfl (by decide) _ _ _ rfl (hL2.own.alloc _) ⟨w2.heap.size,0,none⟩ 1 1 [.int .i64 (st1.T.length:Int)] rfl rfl (cell_one_new _ _ _) (fun y hy=>by simp at hy;subst hy;rfl) (by unfold maxLen;omega) (by omega) (by simp;omega) ?_
               intro v1 w3 hn1 hg1 _ hat1
               obtain ⟨hL3,hR3,hE3⟩:=hL2.add hR2 st1.T.length ((Kept.refl _ _).alloc _) (by simp) hn1 hg1 hat1
               obtain ⟨va,vc,hve⟩:=hL3.form (ps.length + 1) (by simp)
               subst hve
               have HL3:Hid _:=And.intro hL3 (hE3 w S (HK.out.2.1.trans E12) (Nat.le_refl _))
               clear hn1 hg1 hat1 hL3 hE3 hL2 E12)
            | (go_at_call 107;refine (see_any w3 b s S2 _ hR3 hs (by show j≤_;omega)).mono ?_;rw [hsee];rintro e w4 ⟨rfl,n4,rfl⟩))
          go_roundw
          case rel =>
            exact ⟨ps ++ [st1.T.length],S2,_,hR3.drewN _,HL3.out.2.drewN _,HL3.out.1.evo ((Evo.refl _ _).drewN _),hd1,hev1,hru1,lt_snoc _ _ _ hps1,by simp;omega,.inl ⟨e1,pl1,hbd.2.1,by simp;omega,hwf2,by simp;omega,fun r hr=>HK.out.1 r (G.R.quoteMore hch h39 hr)⟩⟩
          case measure =>
            rw [(hR3.drewN _).runOk e1,HR.out]
            show 3001 - j < _
            omega
    · have e1':¬ (st1.err:Int)=0:=by omega
      have hN:=nodeP_any wr b s S1 st1 113 w.heap.size (.slice pa ps.length pc) ps hR1 hL1 hps1 (by omega) (by omega) sz1 w S hE1 (Nat.le_refl _)
      go_wp2_with (go_at_call 135;refine hN.mono ?_;rintro e w2 ⟨rfl,S2,hR2,hE2⟩)
      go_ret
      exact ⟨_,_,rfl,k1,S2,_,hR2,hE2,hd1,hev1,hru1,e1,rfl,by omega,by show st1.i≤_;omega,by simp;omega,mk_le _ _ _ _ _ sz1,by simp;omega⟩
end Rf
end Go.Proofs.YtpgcidpghmoibaaGreatDoor
