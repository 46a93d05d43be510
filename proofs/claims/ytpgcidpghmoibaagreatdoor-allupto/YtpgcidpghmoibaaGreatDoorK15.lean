/-
  THE REFERENCE's READER
-/
import Derived.Test.YtpgcidpghmoibaaGreatDoorK14
namespace Go.Proofs.YtpgcidpghmoibaaGreatDoor
namespace Rf
open Go.RowKit
open G (PNode)
structure BoxR (w:World) (S:Nat→Prop) (bx:Nat) (o:Bool) (rv:Value) (rs:List (Nat × Nat)):Prop where
  blk:w.heap[bx]?=some (.cells #[.int .u8 115,rv,.bool o,.slice none 0 0,.int .i64 0] 118 (0,0))
  own:w.ownsRow (bx + 1) 201 2 rv rs.length (rcells rs)
  outB:¬ S bx
  out:∀ k,rv.ownBlock=some k→¬ S k
theorem own_same' {w w':World} {base e size n:Nat} {v:Value} {xs:List Value} (h:w.ownsRow base e size v n xs) (hk:∀ k,v.ownBlock=some k→w'.heap[k]?=w.heap[k]?):w'.ownsRow base e size v n xs:=by
  obtain ⟨h1,h2⟩:=h
  refine ⟨h1,?_⟩
  rcases h2 with h2 | ⟨g,cap,cur,rfl,h3,h4,h5⟩
  · exact .inl h2
  · exact .inr ⟨g,cap,cur,rfl,h3,by rw [hk g rfl];exact h4,h5⟩
theorem BoxR.evo {w w':World} {S S':Nat→Prop} {bx:Nat} {o:Bool} {rv:Value} {rs:List (Nat × Nat)} (h:BoxR w S bx o rv rs) (he:Evo w S w' S'):BoxR w' S' bx o rv rs where
  blk:=by rw [he.kept.block bx (lt_of_block h.blk) h.outB];exact h.blk
  own:=own_same' h.own (fun k e=>he.kept.block k (h.own.lt k e).2 (h.out k e))
  outB h2:=by
    rcases he.new bx h2 with h3 | h3
    · exact h.outB h3
    · have:=lt_of_block h.blk;omega
  out k e h2:=by
    rcases he.new k h2 with h3 | h3
    · exact h.out k e h3
    · have:=(h.own.lt k e).2;omega
theorem BoxR.add {w X w2:World} {S:Nat→Prop} {bx:Nat} {o:Bool} {rv v':Value} {rs:List (Nat × Nat)} {b:Nat} {s:ByteArray} {st:St} (h:BoxR w S bx o rv rs) (hR:Rd w b s S st) (a c:Nat) (hX:Kept (fun _=>True) w X)
    (hown:w2.ownsRow (bx + 1) 201 2 v' (rs.length + 1) (rcells rs ++ [.int .i64 (a:Int),.int .i64 (c:Int)])) (hg:X.grownBy w2 rv.ownBlock) (hat:v'.ownBlock=rv.ownBlock ∨ v'.ownBlock=some X.heap.size) :
    BoxR (w2.setCell ⟨bx,1,none⟩ v') S bx o v' (rs ++ [(a,c)])∧Rd (w2.setCell ⟨bx,1,none⟩ v') b s S st∧(∀ W S0,Evo W S0 w S→W.heap.size≤bx→Evo W S0 (w2.setCell ⟨bx,1,none⟩ v') S):=by
  have hbl:=lt_of_block h.blk
  have hrb:rv.ownBlock ≠ some bx:=fun e=>by have:=(h.own.lt bx e).1;omega
  have hvb:v'.ownBlock ≠ some bx:=fun e=>by have:=(hown.lt bx e).1;omega
  have h2:w2.heap[bx]?=_:=(hg.block bx (Nat.lt_of_lt_of_le hbl hX.size) (fun e=>hrb e.symm)).trans ((hX.block bx hbl trivial).trans h.blk)
  refine ⟨⟨(blk_set h2 1 v').trans rfl,?_,h.outB,fun k e h3=>?_⟩,?_,fun W S0 he hb=>?_⟩
  · rw [rcells_snoc,List.length_append]
    exact own_same' hown (fun k e=>blk_ne v' (fun e2=>hvb (e2 ▸ e)))
  · rcases hat with h4 | h4
    · exact h.out k (h4 ▸ e) h3
    · rw [h4] at e
      have:=hR.lt k h3
      have:=hX.size
      simp only [Option.some.injEq] at e
      omega
  · have hR2:=(hR.same hX.size (fun k hk=>hX.block k (hR.lt k hk) trivial)).grown hg (fun k e=>h.out k e)
    exact hR2.same (by simp [World.setCell]) (fun k hk=>blk_ne v' (fun e=>h.outB (e ▸ hk)))
  · have hg2:Evo W S0 w2 S:=⟨(he.kept.trans (hX.mono (fun _ _ _=>trivial))).grown hg (fun k e hk=>absurd (h.own.lt k e).1 (by omega)),he.new⟩
    exact ⟨hg2.kept.setNew hb v',hg2.new⟩
def SetR (s:ByteArray) (st:St) (r:G.Res):Prop:=
  (G.pk s st.i=94∧G.R s st.env (.set true []) st.deep (st.i + 1) st.T r) ∨ (G.pk s st.i ≠ 94∧G.R s st.env (.set false []) st.deep st.i st.T r)
set_option maxRecDepth 100000 in
set_option maxHeartbeats 4000000 in
theorem set_any (w:World) (b:Nat) (s:ByteArray) (S:Nat→Prop) (st:St) (hR:Rd w b s S st) (hs:s.size≤2000) (hP:Pre s st) :
    Calls Tryz.prog 151 #[.pointer (some ⟨b,0,none⟩)] w fun e w'=>∃ v r,e=.returned (.int .i64 v)∧SetR s st r∧ReadPost w b s S st r 10 v w':=by
  obtain ⟨i0,hi,hz0,hz1,hz2⟩:=info_parts infoRange
  obtain ⟨he0,hile,hTl,hwf,henv⟩:=hP
  obtain ⟨hSb,hbl⟩:=hR.inS
  have hbx:b ≠ w.heap.size:=by omega
  have hnS:¬ S w.heap.size:=fun h=>by have:=hR.lt _ h;omega
  obtain ⟨c0,c1,c2,c3,c4,fr⟩:=hR.reads
  have hsee:seeV s st=G.pk s st.i:=seeV_ok he0
  obtain ⟨o,j0,hj0,hcase⟩:∃ (o:Bool) (j0:Nat),(j0≤s.size∧st.i≤j0∧∀ r,G.R s st.env (.set o []) st.deep j0 st.T r→SetR s st r)∧((G.pk s st.i=94∧Hid (o=true∧j0=st.i + 1)) ∨ ((G.pk s st.i == 94)=false∧Hid (o=false∧j0=st.i))):=by
    by_cases h:G.pk s st.i=94
    · exact ⟨true,st.i + 1,⟨G.lt_of_pk (s:=s) (i:=st.i) (by omega),by omega,fun r hr=>.inl ⟨h,hr⟩⟩,.inl ⟨h,rfl,rfl⟩⟩
    · exact ⟨false,st.i,⟨hile,by omega,fun r hr=>.inr ⟨h,hr⟩⟩,.inr ⟨by simpa using h,rfl,rfl⟩⟩
  obtain ⟨hj1,hj2,hset⟩:=hj0
  have HS:Hid _:=hset
  clear hset
  have hB0:BoxR (w.alloc (.cells #[.int .u8 115,.slice none 0 0,.bool false,.slice none 0 0,.int .i64 0] 118)) S w.heap.size false (.slice none 0 0) []:=⟨heap_alloc_new w _,World.ownsRow_nil _ _ _ _,hnS,fun k e=>none_own k _ e⟩
  have HB0:Hid _:=hB0
  clear hB0
  rcases hcase with ⟨h94,hoj⟩ | ⟨h94,hoj⟩
  · rw [h94] at hsee
    go_enter Tryz.func151,Tryz.ntmps151
    go_wp2_with (go_at_call 107;refine (see_any _ b s S st (hR.alloc _) hs (by omega)).mono ?_;rw [hsee];rintro e w1 ⟨rfl,n1,rfl⟩)
    obtain ⟨ho,hj⟩:=hoj.out
    have hRa:Rd _ b s S st:=((hR.alloc _).drewN n1).same (w':=(((w.alloc (.cells #[.int .u8 115,.slice none 0 0,.bool false,.slice none 0 0,.int .i64 0] 118)).drewN n1).setCell ⟨w.heap.size,2,none⟩ (.bool true))) (by simp [World.setCell]) (fun k hk=>blk_ne _ (fun e=>hnS (e ▸ hk)))
    have hEa:Evo w S (((w.alloc (.cells #[.int .u8 115,.slice none 0 0,.bool false,.slice none 0 0,.int .i64 0] 118)).drewN n1).setCell ⟨w.heap.size,2,none⟩ (.bool true)) S:=⟨(((Kept.refl _ _).alloc _).drewN _).setNew (Nat.le_refl _) _,fun _ h=>.inl h⟩
    have hBa:BoxR (((w.alloc (.cells #[.int .u8 115,.slice none 0 0,.bool false,.slice none 0 0,.int .i64 0] 118)).drewN n1).setCell ⟨w.heap.size,2,none⟩ (.bool true)) S w.heap.size o (.slice none 0 0) []:=⟨by rw [ho];exact (blk_set (HB0.out.1) 2 _).trans rfl,World.ownsRow_nil _ _ _ _,hnS,fun k e=>none_own k _ e⟩
    have hst:=And.intro hRa.inc (And.intro (hEa.set hSb (.inl hSb) 1 (.int .i64 ((st.i:Int) + 1))) (hBa.evo ((Evo.refl _ _).set hSb (.inl hSb) 1 (.int .i64 ((st.i:Int) + 1)))))
    rw [← hj] at hst
    have HST:Hid _:=hst
    clear hst hRa hEa hBa ho hj hoj HB0 c0 c1 c2 c3 c4 fr hsee h94
    generalize ((((w.alloc (.cells #[.int .u8 115,.slice none 0 0,.bool false,.slice none 0 0,.int .i64 0] 118)).drewN n1).setCell ⟨w.heap.size,2,none⟩ (.bool true)).setCell ⟨b,1,none⟩ (.int .i64 ((st.i:Int) + 1)))=wz at HST ⊢
    go_loopw [] (fun wr=>∃ (rs:List (Nat × Nat)) (rv:Value) (st1:St),Rd wr b s S st1∧Evo w S wr S∧BoxR wr S w.heap.size o rv rs∧st1.deep=st.deep∧st1.env=st.env∧st1.rules=st.rules∧st1.T=st.T ∧
        ((st1.err=0∧st1.place=st.place∧st1.i≤s.size∧j0≤st1.i∧rs.length≤st1.i∧∀ r,G.R s st.env (.set o rs) st.deep st1.i st.T r→G.R s st.env (.set o []) st.deep j0 st.T r) ∨
         (st1.err ≠ 0∧st1.i≤2100∧rs.length≤2001∧G.R s st.env (.set o []) st.deep j0 st.T (.err st1.err st1.place))))
      (fun wr=>runM b wr)
    case atStart=>exact ⟨[],.slice none 0 0,_,HST.out.1,HST.out.2.1,HST.out.2.2,rfl,rfl,rfl,rfl,.inl ⟨he0,rfl,hj1,Nat.le_refl _,by simp,fun r h=>h⟩⟩
    case round =>
      obtain ⟨rs,rv,st1,hR1,hE1,hB1,hd1,hev1,hru1,hT1,hmode⟩:=hrel
      obtain ⟨c0,c1,c2,c3,c4,fr⟩:=hR1.reads
      have cb1:=cell_blk hB1.blk 1 rv rfl
      have cb0:=cell_blk hB1.blk 0 (.int .u8 115) rfl
      have cb2:=cell_blk hB1.blk 2 (.bool o) rfl
      have cb3:=cell_blk hB1.blk 3 (.slice none 0 0) rfl
      have cb4:=cell_blk hB1.blk 4 (.int .i64 0) rfl
      obtain ⟨ra,rc,hre⟩:=own_len hB1.own
      subst hre
      rcases hmode with ⟨e1,pl1,i1,ij1,rl1,k1⟩ | ⟨e1,i1,rl1,k1⟩
      · rw [e1] at c2
        have hsee1:seeV s st1=G.pk s st1.i:=seeV_ok e1
        have HR:Hid (runM b wr=3001 - st1.i):=hR1.runOk e1
        by_cases h93:G.pk s st1.i=93
        · rw [h93] at hsee1
          have HK:Hid _:=k1 _ (G.R.setEnd h93)
          have hlt:=G.lt_of_pk (s:=s) (i:=st1.i) (by omega)
          go_wp2_with (first
            | (go_at_call 135;refine hN.mono ?_;rintro e w5 ⟨rfl,S5,hR5,hE5⟩)
            | (go_at_call 107;refine (see_any wr b s S st1 hR1 hs (by omega)).mono ?_;rw [hsee1];rintro e w1 ⟨rfl,n1,rfl⟩;have E34:=((Evo.refl wr S).drewN n1).set hSb (.inl hSb) 1 (.int .i64 ((st1.i:Int) + 1));have hN:=nodeS_any _ b s S _ o (w.heap.size + 1) (.slice ra rs.length rc) rs (hR1.drewN n1).inc (hB1.evo E34).own hB1.out (by show st1.T.length≤_;rw [hT1];omega) (by show ∀ x ∈ st1.T,_;rw [hT1];exact hwf.le) w S (hE1.trans E34) (by omega)))
          go_ret
          refine ⟨_,_,rfl,HS.out _ HK.out,S5,_,hR5,hE5,hd1,hev1,hru1,rfl,?_⟩
          have e:=st_eq (e1.trans he0.symm) pl1 hd1 hev1 hru1 (st1.i + 1) (st.T ++ [G.mk st.T 115 rs o []])
          rw [← e,← hT1]
        · have hnb:(G.pk s st1.i == 93)=false:=by simpa using h93
          cases hch:G.chr s 93 45 st1.i with
          | none =>
            have HK:Hid _:=k1 _ (G.R.setErr h93 hch)
            clear k1
            go_wp2_with (first
                    | (go_at_call 107;refine (see_any w1 b s S _ hRc hs (by show m≤_;omega)).mono ?_;rw [seeV_no (by show (2:Nat) ≠ 0;omega)];rintro e w2 ⟨rfl,n2,rfl⟩;have HX:Hid _:=And.intro (hB1.evo (hE01.drewN n2)) (And.intro (hRc.drewN n2) (hE1.trans (hE01.drewN n2))))
                    | (go_at_call 158;refine hC1.mono ?_;rintro e w1 ⟨hEc,x,m,rfl,hm,hRc⟩;have hE01:=((Evo.refl wr S).drewN n1).trans hEc;clear c0 c1 c2 c3 c4 fr cb0 cb1 cb2 cb3 cb4;obtain ⟨c0,c1,c2,c3,c4,fr⟩:=hRc.reads;have cb1:=cell_blk (hB1.evo hE01).blk 1 (.slice ra rs.length rc) rfl)
                    | (go_at_call 107;refine (see_any wr b s S st1 hR1 hs (by omega)).mono ?_;rw [hsee1];rintro e w0 ⟨rfl,n1,rfl⟩;have hC1:=char_any (wr.drewN n1) b s S st1 93 45 (hR1.drewN n1) hs i1 e1;rw [show G.chr s ((93:Nat):Int) ((45:Nat):Int) st1.i=none from hch] at hC1)
                    | (at_builtin
                       refine wpList_append_lies _ rfl (.tmp 71) (.tmp 75) 116 rfl (w.heap.size + 1) 201 i0 (.agg #[.int .i64 0,.int .i64 0]) 2 16 Tryz.underlying116 hi hz0 hz1 hz2 rfl (by decide) (.slice ra rs.length rc) rs.length (rcells rs) rfl (HX.out.1.own.alloc _) ⟨(w1.drewN n2).heap.size,0,none⟩ 1 1 [.int .i64 (x:Int),.int .i64 (x:Int)] rfl rfl (World.news_of_block (cs:=#[.int .i64 (x:Int),.int .i64 (x:Int)]) (t:=201) (fr:=(0,0)) (heap_alloc_new _ _)) (fun y hy=>by simp at hy;rcases hy with rfl | rfl <;> rfl) (by decide) (by unfold maxLen;omega) (by omega) (by have:=lt_of_block HX.out.1.blk;simp at this ⊢;omega) ((w1.drewN n2).heap.size + 1) (by simp) ?_
                       intro g9 cap9 w9 hn9 hg9 hat9 hlt9
                       have hb9:w9.heap[w.heap.size]?=_:=(hg9.block w.heap.size (by have:=lt_of_block HX.out.1.blk;simp at this ⊢;omega) (fun e=>by have:=(HX.out.1.own.lt _ e.symm).1;omega)).trans (blk_alloc _ HX.out.1.blk)
                       have cb9:=cell_blk hb9 1 (.slice ra rs.length rc) rfl
                       have fb9:=free_blk hb9 1
                       obtain ⟨f1,f2,f3⟩:=HX.out.1.add HX.out.2.1 x x ((Kept.refl _ _).alloc _) hn9 hg9 (by rcases hat9 with h | h;exact .inl (by rw [h];rfl);exact .inr (by rw [h];simp [Value.ownBlock]))
                       have HY:Hid _:=And.intro f1 (And.intro f2 (f3 w S HX.out.2.2 (Nat.le_refl _)))
                       clear f1 f2 f3 hn9 hg9 hat9 hb9 hlt9 HX))
            go_roundw
            case rel =>
              exact ⟨rs ++ [(x,x)],_,_,HY.out.2.1,HY.out.2.2,HY.out.1,hd1,hev1,hru1,hT1,.inr ⟨by simp,by show m≤_;omega,by simp;omega,HK.out⟩⟩
            case measure =>
              rw [HY.out.2.1.runNo (by simp),HR.out]
              omega
          | some aj =>
            obtain ⟨a,j⟩:=aj
            have hbd:=G.chr_bd hch
            have hsee2:seeV s { st1 with i:=j }=G.pk s j:=seeV_ok (st:={ st1 with i:=j }) e1
            by_cases h45:G.pk s j=45
            · have hlt:=G.lt_of_pk (s:=s) (i:=j) (by omega)
              rw [h45] at hsee2
              cases hch2:G.chr s 93 45 (j + 1) with
                    | none =>
                have HK:Hid _:=k1 _ (G.R.setErr2 h93 hch h45 hch2)
                clear k1
                go_wp2_with (first
                    | (go_at_call 158;refine hC2.mono ?_;rintro e w3 ⟨hEd,y,m,rfl,hm,hRd⟩;have hE13:=((hE01.drewN n2).set hSb (.inl hSb) 1 (.int .i64 ((j:Int) + 1))).trans hEd;clear c0 c1 c2 c3 c4 fr cb1;obtain ⟨c0,c1,c2,c3,c4,fr⟩:=hRd.reads;have cb1:=cell_blk (hB1.evo hE13).blk 1 (.slice ra rs.length rc) rfl;have HX:Hid _:=And.intro (hB1.evo (hE13)) (And.intro (hRd) (hE1.trans (hE13))))
                    | (go_at_call 107;refine (see_any w1 b s S _ hRc hs (by show j≤_;omega)).mono ?_;rw [hsee2];rintro e w2 ⟨rfl,n2,rfl⟩;have hC2:=char_any ((w1.drewN n2).setCell ⟨b,1,none⟩ (.int .i64 ((j:Int) + 1))) b s S { st1 with i:=j + 1 } 93 45 (hRc.drewN n2).inc hs (by show j + 1≤_;omega) e1;rw [show G.chr s ((93:Nat):Int) ((45:Nat):Int) ({ st1 with i:=j + 1 }:St).i=none from hch2] at hC2)
                    | (go_at_call 158;refine hC1.mono ?_;rintro e w1 ⟨hEc,rfl,hRc⟩;have hE01:=((Evo.refl wr S).drewN n1).trans hEc;clear c0 c1 c2 c3 c4 fr cb0 cb1 cb2 cb3 cb4;obtain ⟨c0,c1,c2,c3,c4,fr⟩:=hRc.reads;have cb1:=cell_blk (hB1.evo hE01).blk 1 (.slice ra rs.length rc) rfl)
                    | (go_at_call 107;refine (see_any wr b s S st1 hR1 hs (by omega)).mono ?_;rw [hsee1];rintro e w0 ⟨rfl,n1,rfl⟩;have hC1:=char_any (wr.drewN n1) b s S st1 93 45 (hR1.drewN n1) hs i1 e1;rw [show G.chr s ((93:Nat):Int) ((45:Nat):Int) st1.i=some (a,j) from hch] at hC1)
                    | (at_builtin
                       refine wpList_append_lies _ rfl (.tmp 71) (.tmp 75) 116 rfl (w.heap.size + 1) 201 i0 (.agg #[.int .i64 0,.int .i64 0]) 2 16 Tryz.underlying116 hi hz0 hz1 hz2 rfl (by decide) (.slice ra rs.length rc) rs.length (rcells rs) rfl (HX.out.1.own.alloc _) ⟨(w3).heap.size,0,none⟩ 1 1 [.int .i64 (a:Int),.int .i64 (y:Int)] rfl rfl (World.news_of_block (cs:=#[.int .i64 (a:Int),.int .i64 (y:Int)]) (t:=201) (fr:=(0,0)) (heap_alloc_new _ _)) (fun y hy=>by simp at hy;rcases hy with rfl | rfl <;> rfl) (by decide) (by unfold maxLen;omega) (by omega) (by have:=lt_of_block HX.out.1.blk;simp at this ⊢;omega) ((w3).heap.size + 1) (by simp) ?_
                       intro g9 cap9 w9 hn9 hg9 hat9 hlt9
                       have hb9:w9.heap[w.heap.size]?=_:=(hg9.block w.heap.size (by have:=lt_of_block HX.out.1.blk;simp at this ⊢;omega) (fun e=>by have:=(HX.out.1.own.lt _ e.symm).1;omega)).trans (blk_alloc _ HX.out.1.blk)
                       have cb9:=cell_blk hb9 1 (.slice ra rs.length rc) rfl
                       have fb9:=free_blk hb9 1
                       obtain ⟨f1,f2,f3⟩:=HX.out.1.add HX.out.2.1 a y ((Kept.refl _ _).alloc _) hn9 hg9 (by rcases hat9 with h | h;exact .inl (by rw [h];rfl);exact .inr (by rw [h];simp [Value.ownBlock]))
                       have HY:Hid _:=And.intro f1 (And.intro f2 (f3 w S HX.out.2.2 (Nat.le_refl _)))
                       clear f1 f2 f3 hn9 hg9 hat9 hb9 hlt9 HX))
                go_roundw
                case rel =>
                  exact ⟨rs ++ [(a,y)],_,_,HY.out.2.1,HY.out.2.2,HY.out.1,hd1,hev1,hru1,hT1,.inr ⟨by simp,by show m≤_;omega,by simp;omega,HK.out⟩⟩
                case measure =>
                  rw [HY.out.2.1.runNo (by simp),HR.out]
                  omega
                    | some ck =>
                obtain ⟨c,k⟩:=ck
                have hbd2:=G.chr_bd hch2
                by_cases hca:c < a
                · have HK:Hid _:=k1 _ (G.R.setErr3 h93 hch h45 hch2 hca)
                  have hfa:failed { st1 with i:=k } 4 st1.i={ st1 with i:=k,err:=4,place:=st1.i }:=by rw [failed,if_pos e1]
                  have HF:Hid _:=hfa
                  clear k1 hfa
                  have hca':(c:Int) < (a:Int):=by omega
                  go_wp2_with (first
                    | (go_at_call 158;refine hC2.mono ?_;rintro e w3 ⟨hEd,rfl,hRd⟩;have hE13:=((hE01.drewN n2).set hSb (.inl hSb) 1 (.int .i64 ((j:Int) + 1))).trans hEd;clear c0 c1 c2 c3 c4 fr cb1;obtain ⟨c0,c1,c2,c3,c4,fr⟩:=hRd.reads;have cb1:=cell_blk (hB1.evo hE13).blk 1 (.slice ra rs.length rc) rfl)
                    | (go_at_call 107;refine (see_any w1 b s S _ hRc hs (by show j≤_;omega)).mono ?_;rw [hsee2];rintro e w2 ⟨rfl,n2,rfl⟩;have hC2:=char_any ((w1.drewN n2).setCell ⟨b,1,none⟩ (.int .i64 ((j:Int) + 1))) b s S { st1 with i:=j + 1 } 93 45 (hRc.drewN n2).inc hs (by show j + 1≤_;omega) e1;rw [show G.chr s ((93:Nat):Int) ((45:Nat):Int) ({ st1 with i:=j + 1 }:St).i=some (c,k) from hch2] at hC2)
                    | (go_at_call 158;refine hC1.mono ?_;rintro e w1 ⟨hEc,rfl,hRc⟩;have hE01:=((Evo.refl wr S).drewN n1).trans hEc;clear c0 c1 c2 c3 c4 fr cb0 cb1 cb2 cb3 cb4;obtain ⟨c0,c1,c2,c3,c4,fr⟩:=hRc.reads;have cb1:=cell_blk (hB1.evo hE01).blk 1 (.slice ra rs.length rc) rfl)
                    | (go_at_call 107;refine (see_any wr b s S st1 hR1 hs (by omega)).mono ?_;rw [hsee1];rintro e w0 ⟨rfl,n1,rfl⟩;have hC1:=char_any (wr.drewN n1) b s S st1 93 45 (hR1.drewN n1) hs i1 e1;rw [show G.chr s ((93:Nat):Int) ((45:Nat):Int) st1.i=some (a,j) from hch] at hC1)
                    | (go_at_call 110;refine (fail_any w3 b s S _ 4 st1.i hRd).mono ?_;rw [HF.out];rintro e w4 ⟨rfl,hRf,hEf⟩;have hE14:=hE13.trans hEf;clear c0 c1 c2 c3 c4 fr cb1;obtain ⟨c0,c1,c2,c3,c4,fr⟩:=hRf.reads;have cb1:=cell_blk (hB1.evo hE14).blk 1 (.slice ra rs.length rc) rfl;have HX:Hid _:=And.intro (hB1.evo (hE14)) (And.intro (hRf) (hE1.trans (hE14))))
                    | (at_builtin
                       refine wpList_append_lies _ rfl (.tmp 71) (.tmp 75) 116 rfl (w.heap.size + 1) 201 i0 (.agg #[.int .i64 0,.int .i64 0]) 2 16 Tryz.underlying116 hi hz0 hz1 hz2 rfl (by decide) (.slice ra rs.length rc) rs.length (rcells rs) rfl (HX.out.1.own.alloc _) ⟨(w4).heap.size,0,none⟩ 1 1 [.int .i64 (a:Int),.int .i64 (c:Int)] rfl rfl (World.news_of_block (cs:=#[.int .i64 (a:Int),.int .i64 (c:Int)]) (t:=201) (fr:=(0,0)) (heap_alloc_new _ _)) (fun y hy=>by simp at hy;rcases hy with rfl | rfl <;> rfl) (by decide) (by unfold maxLen;omega) (by omega) (by have:=lt_of_block HX.out.1.blk;simp at this ⊢;omega) ((w4).heap.size + 1) (by simp) ?_
                       intro g9 cap9 w9 hn9 hg9 hat9 hlt9
                       have hb9:w9.heap[w.heap.size]?=_:=(hg9.block w.heap.size (by have:=lt_of_block HX.out.1.blk;simp at this ⊢;omega) (fun e=>by have:=(HX.out.1.own.lt _ e.symm).1;omega)).trans (blk_alloc _ HX.out.1.blk)
                       have cb9:=cell_blk hb9 1 (.slice ra rs.length rc) rfl
                       have fb9:=free_blk hb9 1
                       obtain ⟨f1,f2,f3⟩:=HX.out.1.add HX.out.2.1 a c ((Kept.refl _ _).alloc _) hn9 hg9 (by rcases hat9 with h | h;exact .inl (by rw [h];rfl);exact .inr (by rw [h];simp [Value.ownBlock]))
                       have HY:Hid _:=And.intro f1 (And.intro f2 (f3 w S HX.out.2.2 (Nat.le_refl _)))
                       clear f1 f2 f3 hn9 hg9 hat9 hb9 hlt9 HX))
                  go_roundw
                  case rel =>
                    exact ⟨rs ++ [(a,c)],_,_,HY.out.2.1,HY.out.2.2,HY.out.1,hd1,hev1,hru1,hT1,.inr ⟨by simp,by show k≤_;omega,by simp;omega,HK.out⟩⟩
                  case measure =>
                    rw [HY.out.2.1.runNo (by simp),HR.out]
                    omega
                · have HK:Hid _:=k1
                  have hct:∀ r,G.R s st.env (.set o (rs ++ [(a,c)])) st.deep k st.T r→G.R s st.env (.set o rs) st.deep st1.i st.T r:=fun r hr=>G.R.setTwo h93 hch h45 hch2 (by omega) hr
                  clear k1
                  have hca':¬ (c:Int) < (a:Int):=by omega
                  go_wp2_with (first
                    | (go_at_call 158;refine hC2.mono ?_;rintro e w3 ⟨hEd,rfl,hRd⟩;have hE13:=((hE01.drewN n2).set hSb (.inl hSb) 1 (.int .i64 ((j:Int) + 1))).trans hEd;clear c0 c1 c2 c3 c4 fr cb1;obtain ⟨c0,c1,c2,c3,c4,fr⟩:=hRd.reads;have cb1:=cell_blk (hB1.evo hE13).blk 1 (.slice ra rs.length rc) rfl;have HX:Hid _:=And.intro (hB1.evo (hE13)) (And.intro (hRd) (hE1.trans (hE13))))
                    | (go_at_call 107;refine (see_any w1 b s S _ hRc hs (by show j≤_;omega)).mono ?_;rw [hsee2];rintro e w2 ⟨rfl,n2,rfl⟩;have hC2:=char_any ((w1.drewN n2).setCell ⟨b,1,none⟩ (.int .i64 ((j:Int) + 1))) b s S { st1 with i:=j + 1 } 93 45 (hRc.drewN n2).inc hs (by show j + 1≤_;omega) e1;rw [show G.chr s ((93:Nat):Int) ((45:Nat):Int) ({ st1 with i:=j + 1 }:St).i=some (c,k) from hch2] at hC2)
                    | (go_at_call 158;refine hC1.mono ?_;rintro e w1 ⟨hEc,rfl,hRc⟩;have hE01:=((Evo.refl wr S).drewN n1).trans hEc;clear c0 c1 c2 c3 c4 fr cb0 cb1 cb2 cb3 cb4;obtain ⟨c0,c1,c2,c3,c4,fr⟩:=hRc.reads;have cb1:=cell_blk (hB1.evo hE01).blk 1 (.slice ra rs.length rc) rfl)
                    | (go_at_call 107;refine (see_any wr b s S st1 hR1 hs (by omega)).mono ?_;rw [hsee1];rintro e w0 ⟨rfl,n1,rfl⟩;have hC1:=char_any (wr.drewN n1) b s S st1 93 45 (hR1.drewN n1) hs i1 e1;rw [show G.chr s ((93:Nat):Int) ((45:Nat):Int) st1.i=some (a,j) from hch] at hC1)
                    | (at_builtin
                       refine wpList_append_lies _ rfl (.tmp 71) (.tmp 75) 116 rfl (w.heap.size + 1) 201 i0 (.agg #[.int .i64 0,.int .i64 0]) 2 16 Tryz.underlying116 hi hz0 hz1 hz2 rfl (by decide) (.slice ra rs.length rc) rs.length (rcells rs) rfl (HX.out.1.own.alloc _) ⟨(w3).heap.size,0,none⟩ 1 1 [.int .i64 (a:Int),.int .i64 (c:Int)] rfl rfl (World.news_of_block (cs:=#[.int .i64 (a:Int),.int .i64 (c:Int)]) (t:=201) (fr:=(0,0)) (heap_alloc_new _ _)) (fun y hy=>by simp at hy;rcases hy with rfl | rfl <;> rfl) (by decide) (by unfold maxLen;omega) (by omega) (by have:=lt_of_block HX.out.1.blk;simp at this ⊢;omega) ((w3).heap.size + 1) (by simp) ?_
                       intro g9 cap9 w9 hn9 hg9 hat9 hlt9
                       have hb9:w9.heap[w.heap.size]?=_:=(hg9.block w.heap.size (by have:=lt_of_block HX.out.1.blk;simp at this ⊢;omega) (fun e=>by have:=(HX.out.1.own.lt _ e.symm).1;omega)).trans (blk_alloc _ HX.out.1.blk)
                       have cb9:=cell_blk hb9 1 (.slice ra rs.length rc) rfl
                       have fb9:=free_blk hb9 1
                       obtain ⟨f1,f2,f3⟩:=HX.out.1.add HX.out.2.1 a c ((Kept.refl _ _).alloc _) hn9 hg9 (by rcases hat9 with h | h;exact .inl (by rw [h];rfl);exact .inr (by rw [h];simp [Value.ownBlock]))
                       have HY:Hid _:=And.intro f1 (And.intro f2 (f3 w S HX.out.2.2 (Nat.le_refl _)))
                       clear f1 f2 f3 hn9 hg9 hat9 hb9 hlt9 HX))
                  go_roundw
                  case rel =>
                    exact ⟨rs ++ [(a,c)],_,_,HY.out.2.1,HY.out.2.2,HY.out.1,hd1,hev1,hru1,hT1,.inl ⟨e1,pl1,by show k≤_;omega,by show _≤k;omega,by show _≤k;simp;omega,fun r hr=>HK.out r (hct r hr)⟩⟩
                  case measure =>
                    rw [HY.out.2.1.runOk e1,HR.out]
                    show 3001 - k < _
                    omega
            · have hnb2:(G.pk s j == 45)=false:=by simpa using h45
              have HK:Hid _:=k1
              have hct:∀ r,G.R s st.env (.set o (rs ++ [(a,a)])) st.deep j st.T r→G.R s st.env (.set o rs) st.deep st1.i st.T r:=fun r hr=>G.R.setOne h93 hch h45 hr
              clear k1
              go_wp2_with (first
                    | (go_at_call 107;refine (see_any w1 b s S _ hRc hs (by show j≤_;omega)).mono ?_;rw [hsee2];rintro e w2 ⟨rfl,n2,rfl⟩;have HX:Hid _:=And.intro (hB1.evo (hE01.drewN n2)) (And.intro (hRc.drewN n2) (hE1.trans (hE01.drewN n2))))
                    | (go_at_call 158;refine hC1.mono ?_;rintro e w1 ⟨hEc,rfl,hRc⟩;have hE01:=((Evo.refl wr S).drewN n1).trans hEc;clear c0 c1 c2 c3 c4 fr cb0 cb1 cb2 cb3 cb4;obtain ⟨c0,c1,c2,c3,c4,fr⟩:=hRc.reads;have cb1:=cell_blk (hB1.evo hE01).blk 1 (.slice ra rs.length rc) rfl)
                    | (go_at_call 107;refine (see_any wr b s S st1 hR1 hs (by omega)).mono ?_;rw [hsee1];rintro e w0 ⟨rfl,n1,rfl⟩;have hC1:=char_any (wr.drewN n1) b s S st1 93 45 (hR1.drewN n1) hs i1 e1;rw [show G.chr s ((93:Nat):Int) ((45:Nat):Int) st1.i=some (a,j) from hch] at hC1)
                    | (at_builtin
                       refine wpList_append_lies _ rfl (.tmp 71) (.tmp 75) 116 rfl (w.heap.size + 1) 201 i0 (.agg #[.int .i64 0,.int .i64 0]) 2 16 Tryz.underlying116 hi hz0 hz1 hz2 rfl (by decide) (.slice ra rs.length rc) rs.length (rcells rs) rfl (HX.out.1.own.alloc _) ⟨(w1.drewN n2).heap.size,0,none⟩ 1 1 [.int .i64 (a:Int),.int .i64 (a:Int)] rfl rfl (World.news_of_block (cs:=#[.int .i64 (a:Int),.int .i64 (a:Int)]) (t:=201) (fr:=(0,0)) (heap_alloc_new _ _)) (fun y hy=>by simp at hy;rcases hy with rfl | rfl <;> rfl) (by decide) (by unfold maxLen;omega) (by omega) (by have:=lt_of_block HX.out.1.blk;simp at this ⊢;omega) ((w1.drewN n2).heap.size + 1) (by simp) ?_
                       intro g9 cap9 w9 hn9 hg9 hat9 hlt9
                       have hb9:w9.heap[w.heap.size]?=_:=(hg9.block w.heap.size (by have:=lt_of_block HX.out.1.blk;simp at this ⊢;omega) (fun e=>by have:=(HX.out.1.own.lt _ e.symm).1;omega)).trans (blk_alloc _ HX.out.1.blk)
                       have cb9:=cell_blk hb9 1 (.slice ra rs.length rc) rfl
                       have fb9:=free_blk hb9 1
                       obtain ⟨f1,f2,f3⟩:=HX.out.1.add HX.out.2.1 a a ((Kept.refl _ _).alloc _) hn9 hg9 (by rcases hat9 with h | h;exact .inl (by rw [h];rfl);exact .inr (by rw [h];simp [Value.ownBlock]))
                       have HY:Hid _:=And.intro f1 (And.intro f2 (f3 w S HX.out.2.2 (Nat.le_refl _)))
                       clear f1 f2 f3 hn9 hg9 hat9 hb9 hlt9 HX))
              go_roundw
              case rel =>
                exact ⟨rs ++ [(a,a)],_,_,HY.out.2.1,HY.out.2.2,HY.out.1,hd1,hev1,hru1,hT1,.inl ⟨e1,pl1,by show j≤_;omega,by show _≤j;omega,by show _≤j;simp;omega,fun r hr=>HK.out r (hct r hr)⟩⟩
              case measure =>
                rw [HY.out.2.1.runOk e1,HR.out]
                show 3001 - j < _
                omega
      · have e1':¬ (st1.err:Int)=0:=by omega
        have hN:=nodeS_any wr b s S st1 o (w.heap.size + 1) (.slice ra rs.length rc) rs hR1 hB1.own hB1.out (by rw [hT1];omega) (by rw [hT1];exact hwf.le) w S hE1 (by omega)
        go_wp2_with (go_at_call 135;refine hN.mono ?_;rintro e w2 ⟨rfl,S2,hR2,hE2⟩)
        go_ret
        refine ⟨_,_,rfl,HS.out _ k1,S2,_,hR2,hE2,hd1,hev1,hru1,rfl,rfl,e1,by show st1.i≤_;omega,by simp [hT1];omega,?_,by simp [hT1]⟩
        rw [hT1]
        exact mk_le _ _ _ _ _ hwf.le
  · go_enter Tryz.func151,Tryz.ntmps151
    go_wp2_with (go_at_call 107;refine (see_any _ b s S st (hR.alloc _) hs (by omega)).mono ?_;rw [hsee];rintro e w1 ⟨rfl,n1,rfl⟩)
    obtain ⟨ho,hj⟩:=hoj.out
    have hst:Rd ((w.alloc (.cells #[.int .u8 115,.slice none 0 0,.bool false,.slice none 0 0,.int .i64 0] 118)).drewN n1) b s S { st with i:=j0 }∧Evo w S ((w.alloc (.cells #[.int .u8 115,.slice none 0 0,.bool false,.slice none 0 0,.int .i64 0] 118)).drewN n1) S∧BoxR ((w.alloc (.cells #[.int .u8 115,.slice none 0 0,.bool false,.slice none 0 0,.int .i64 0] 118)).drewN n1) S w.heap.size o (.slice none 0 0) []:=by
      rw [hj,ho]
      exact ⟨(hR.alloc _).drewN n1,⟨((Kept.refl _ _).alloc _).drewN _,fun _ h=>.inl h⟩,⟨HB0.out.1,World.ownsRow_nil _ _ _ _,hnS,fun k e=>none_own k _ e⟩⟩
    have HST:Hid _:=hst
    clear hst ho hj hoj HB0 c0 c1 c2 c3 c4 fr hsee h94
    generalize ((w.alloc (.cells #[.int .u8 115,.slice none 0 0,.bool false,.slice none 0 0,.int .i64 0] 118)).drewN n1)=wz at HST ⊢
    go_loopw [] (fun wr=>∃ (rs:List (Nat × Nat)) (rv:Value) (st1:St),Rd wr b s S st1∧Evo w S wr S∧BoxR wr S w.heap.size o rv rs∧st1.deep=st.deep∧st1.env=st.env∧st1.rules=st.rules∧st1.T=st.T ∧
        ((st1.err=0∧st1.place=st.place∧st1.i≤s.size∧j0≤st1.i∧rs.length≤st1.i∧∀ r,G.R s st.env (.set o rs) st.deep st1.i st.T r→G.R s st.env (.set o []) st.deep j0 st.T r) ∨
         (st1.err ≠ 0∧st1.i≤2100∧rs.length≤2001∧G.R s st.env (.set o []) st.deep j0 st.T (.err st1.err st1.place))))
      (fun wr=>runM b wr)
    case atStart=>exact ⟨[],.slice none 0 0,_,HST.out.1,HST.out.2.1,HST.out.2.2,rfl,rfl,rfl,rfl,.inl ⟨he0,rfl,hj1,Nat.le_refl _,by simp,fun r h=>h⟩⟩
    case round =>
      obtain ⟨rs,rv,st1,hR1,hE1,hB1,hd1,hev1,hru1,hT1,hmode⟩:=hrel
      obtain ⟨c0,c1,c2,c3,c4,fr⟩:=hR1.reads
      have cb1:=cell_blk hB1.blk 1 rv rfl
      have cb0:=cell_blk hB1.blk 0 (.int .u8 115) rfl
      have cb2:=cell_blk hB1.blk 2 (.bool o) rfl
      have cb3:=cell_blk hB1.blk 3 (.slice none 0 0) rfl
      have cb4:=cell_blk hB1.blk 4 (.int .i64 0) rfl
      obtain ⟨ra,rc,hre⟩:=own_len hB1.own
      subst hre
      rcases hmode with ⟨e1,pl1,i1,ij1,rl1,k1⟩ | ⟨e1,i1,rl1,k1⟩
      · rw [e1] at c2
        have hsee1:seeV s st1=G.pk s st1.i:=seeV_ok e1
        have HR:Hid (runM b wr=3001 - st1.i):=hR1.runOk e1
        by_cases h93:G.pk s st1.i=93
        · rw [h93] at hsee1
          have HK:Hid _:=k1 _ (G.R.setEnd h93)
          have hlt:=G.lt_of_pk (s:=s) (i:=st1.i) (by omega)
          go_wp2_with (first
            | (go_at_call 135;refine hN.mono ?_;rintro e w5 ⟨rfl,S5,hR5,hE5⟩)
            | (go_at_call 107;refine (see_any wr b s S st1 hR1 hs (by omega)).mono ?_;rw [hsee1];rintro e w1 ⟨rfl,n1,rfl⟩;have E34:=((Evo.refl wr S).drewN n1).set hSb (.inl hSb) 1 (.int .i64 ((st1.i:Int) + 1));have hN:=nodeS_any _ b s S _ o (w.heap.size + 1) (.slice ra rs.length rc) rs (hR1.drewN n1).inc (hB1.evo E34).own hB1.out (by show st1.T.length≤_;rw [hT1];omega) (by show ∀ x ∈ st1.T,_;rw [hT1];exact hwf.le) w S (hE1.trans E34) (by omega)))
          go_ret
          refine ⟨_,_,rfl,HS.out _ HK.out,S5,_,hR5,hE5,hd1,hev1,hru1,rfl,?_⟩
          have e:=st_eq (e1.trans he0.symm) pl1 hd1 hev1 hru1 (st1.i + 1) (st.T ++ [G.mk st.T 115 rs o []])
          rw [← e,← hT1]
        · have hnb:(G.pk s st1.i == 93)=false:=by simpa using h93
          cases hch:G.chr s 93 45 st1.i with
          | none =>
            have HK:Hid _:=k1 _ (G.R.setErr h93 hch)
            clear k1
            go_wp2_with (first
                    | (go_at_call 107;refine (see_any w1 b s S _ hRc hs (by show m≤_;omega)).mono ?_;rw [seeV_no (by show (2:Nat) ≠ 0;omega)];rintro e w2 ⟨rfl,n2,rfl⟩;have HX:Hid _:=And.intro (hB1.evo (hE01.drewN n2)) (And.intro (hRc.drewN n2) (hE1.trans (hE01.drewN n2))))
                    | (go_at_call 158;refine hC1.mono ?_;rintro e w1 ⟨hEc,x,m,rfl,hm,hRc⟩;have hE01:=((Evo.refl wr S).drewN n1).trans hEc;clear c0 c1 c2 c3 c4 fr cb0 cb1 cb2 cb3 cb4;obtain ⟨c0,c1,c2,c3,c4,fr⟩:=hRc.reads;have cb1:=cell_blk (hB1.evo hE01).blk 1 (.slice ra rs.length rc) rfl)
                    | (go_at_call 107;refine (see_any wr b s S st1 hR1 hs (by omega)).mono ?_;rw [hsee1];rintro e w0 ⟨rfl,n1,rfl⟩;have hC1:=char_any (wr.drewN n1) b s S st1 93 45 (hR1.drewN n1) hs i1 e1;rw [show G.chr s ((93:Nat):Int) ((45:Nat):Int) st1.i=none from hch] at hC1)
                    | (at_builtin
                       refine wpList_append_lies _ rfl (.tmp 71) (.tmp 75) 116 rfl (w.heap.size + 1) 201 i0 (.agg #[.int .i64 0,.int .i64 0]) 2 16 Tryz.underlying116 hi hz0 hz1 hz2 rfl (by decide) (.slice ra rs.length rc) rs.length (rcells rs) rfl (HX.out.1.own.alloc _) ⟨(w1.drewN n2).heap.size,0,none⟩ 1 1 [.int .i64 (x:Int),.int .i64 (x:Int)] rfl rfl (World.news_of_block (cs:=#[.int .i64 (x:Int),.int .i64 (x:Int)]) (t:=201) (fr:=(0,0)) (heap_alloc_new _ _)) (fun y hy=>by simp at hy;rcases hy with rfl | rfl <;> rfl) (by decide) (by unfold maxLen;omega) (by omega) (by have:=lt_of_block HX.out.1.blk;simp at this ⊢;omega) ((w1.drewN n2).heap.size + 1) (by simp) ?_
                       intro g9 cap9 w9 hn9 hg9 hat9 hlt9
                       have hb9:w9.heap[w.heap.size]?=_:=(hg9.block w.heap.size (by have:=lt_of_block HX.out.1.blk;simp at this ⊢;omega) (fun e=>by have:=(HX.out.1.own.lt _ e.symm).1;omega)).trans (blk_alloc _ HX.out.1.blk)
                       have cb9:=cell_blk hb9 1 (.slice ra rs.length rc) rfl
                       have fb9:=free_blk hb9 1
                       obtain ⟨f1,f2,f3⟩:=HX.out.1.add HX.out.2.1 x x ((Kept.refl _ _).alloc _) hn9 hg9 (by rcases hat9 with h | h;exact .inl (by rw [h];rfl);exact .inr (by rw [h];simp [Value.ownBlock]))
                       have HY:Hid _:=And.intro f1 (And.intro f2 (f3 w S HX.out.2.2 (Nat.le_refl _)))
                       clear f1 f2 f3 hn9 hg9 hat9 hb9 hlt9 HX))
            go_roundw
            case rel =>
              exact ⟨rs ++ [(x,x)],_,_,HY.out.2.1,HY.out.2.2,HY.out.1,hd1,hev1,hru1,hT1,.inr ⟨by simp,by show m≤_;omega,by simp;omega,HK.out⟩⟩
            case measure =>
              rw [HY.out.2.1.runNo (by simp),HR.out]
              omega
          | some aj =>
            obtain ⟨a,j⟩:=aj
            have hbd:=G.chr_bd hch
            have hsee2:seeV s { st1 with i:=j }=G.pk s j:=seeV_ok (st:={ st1 with i:=j }) e1
            by_cases h45:G.pk s j=45
            · have hlt:=G.lt_of_pk (s:=s) (i:=j) (by omega)
              rw [h45] at hsee2
              cases hch2:G.chr s 93 45 (j + 1) with
                    | none =>
                have HK:Hid _:=k1 _ (G.R.setErr2 h93 hch h45 hch2)
                clear k1
                go_wp2_with (first
                    | (go_at_call 158;refine hC2.mono ?_;rintro e w3 ⟨hEd,y,m,rfl,hm,hRd⟩;have hE13:=((hE01.drewN n2).set hSb (.inl hSb) 1 (.int .i64 ((j:Int) + 1))).trans hEd;clear c0 c1 c2 c3 c4 fr cb1;obtain ⟨c0,c1,c2,c3,c4,fr⟩:=hRd.reads;have cb1:=cell_blk (hB1.evo hE13).blk 1 (.slice ra rs.length rc) rfl;have HX:Hid _:=And.intro (hB1.evo (hE13)) (And.intro (hRd) (hE1.trans (hE13))))
                    | (go_at_call 107;refine (see_any w1 b s S _ hRc hs (by show j≤_;omega)).mono ?_;rw [hsee2];rintro e w2 ⟨rfl,n2,rfl⟩;have hC2:=char_any ((w1.drewN n2).setCell ⟨b,1,none⟩ (.int .i64 ((j:Int) + 1))) b s S { st1 with i:=j + 1 } 93 45 (hRc.drewN n2).inc hs (by show j + 1≤_;omega) e1;rw [show G.chr s ((93:Nat):Int) ((45:Nat):Int) ({ st1 with i:=j + 1 }:St).i=none from hch2] at hC2)
                    | (go_at_call 158;refine hC1.mono ?_;rintro e w1 ⟨hEc,rfl,hRc⟩;have hE01:=((Evo.refl wr S).drewN n1).trans hEc;clear c0 c1 c2 c3 c4 fr cb0 cb1 cb2 cb3 cb4;obtain ⟨c0,c1,c2,c3,c4,fr⟩:=hRc.reads;have cb1:=cell_blk (hB1.evo hE01).blk 1 (.slice ra rs.length rc) rfl)
                    | (go_at_call 107;refine (see_any wr b s S st1 hR1 hs (by omega)).mono ?_;rw [hsee1];rintro e w0 ⟨rfl,n1,rfl⟩;have hC1:=char_any (wr.drewN n1) b s S st1 93 45 (hR1.drewN n1) hs i1 e1;rw [show G.chr s ((93:Nat):Int) ((45:Nat):Int) st1.i=some (a,j) from hch] at hC1)
                    | (at_builtin
                       refine wpList_append_lies _ rfl (.tmp 71) (.tmp 75) 116 rfl (w.heap.size + 1) 201 i0 (.agg #[.int .i64 0,.int .i64 0]) 2 16 Tryz.underlying116 hi hz0 hz1 hz2 rfl (by decide) (.slice ra rs.length rc) rs.length (rcells rs) rfl (HX.out.1.own.alloc _) ⟨(w3).heap.size,0,none⟩ 1 1 [.int .i64 (a:Int),.int .i64 (y:Int)] rfl rfl (World.news_of_block (cs:=#[.int .i64 (a:Int),.int .i64 (y:Int)]) (t:=201) (fr:=(0,0)) (heap_alloc_new _ _)) (fun y hy=>by simp at hy;rcases hy with rfl | rfl <;> rfl) (by decide) (by unfold maxLen;omega) (by omega) (by have:=lt_of_block HX.out.1.blk;simp at this ⊢;omega) ((w3).heap.size + 1) (by simp) ?_
                       intro g9 cap9 w9 hn9 hg9 hat9 hlt9
                       have hb9:w9.heap[w.heap.size]?=_:=(hg9.block w.heap.size (by have:=lt_of_block HX.out.1.blk;simp at this ⊢;omega) (fun e=>by have:=(HX.out.1.own.lt _ e.symm).1;omega)).trans (blk_alloc _ HX.out.1.blk)
                       have cb9:=cell_blk hb9 1 (.slice ra rs.length rc) rfl
                       have fb9:=free_blk hb9 1
                       obtain ⟨f1,f2,f3⟩:=HX.out.1.add HX.out.2.1 a y ((Kept.refl _ _).alloc _) hn9 hg9 (by rcases hat9 with h | h;exact .inl (by rw [h];rfl);exact .inr (by rw [h];simp [Value.ownBlock]))
                       have HY:Hid _:=And.intro f1 (And.intro f2 (f3 w S HX.out.2.2 (Nat.le_refl _)))
                       clear f1 f2 f3 hn9 hg9 hat9 hb9 hlt9 HX))
                go_roundw
                case rel =>
                  exact ⟨rs ++ [(a,y)],_,_,HY.out.2.1,HY.out.2.2,HY.out.1,hd1,hev1,hru1,hT1,.inr ⟨by simp,by show m≤_;omega,by simp;omega,HK.out⟩⟩
                case measure =>
                  rw [HY.out.2.1.runNo (by simp),HR.out]
                  omega
                    | some ck =>
                obtain ⟨c,k⟩:=ck
                have hbd2:=G.chr_bd hch2
                by_cases hca:c < a
                · have HK:Hid _:=k1 _ (G.R.setErr3 h93 hch h45 hch2 hca)
                  have hfa:failed { st1 with i:=k } 4 st1.i={ st1 with i:=k,err:=4,place:=st1.i }:=by rw [failed,if_pos e1]
                  have HF:Hid _:=hfa
                  clear k1 hfa
                  have hca':(c:Int) < (a:Int):=by omega
                  go_wp2_with (first
                    | (go_at_call 158;refine hC2.mono ?_;rintro e w3 ⟨hEd,rfl,hRd⟩;have hE13:=((hE01.drewN n2).set hSb (.inl hSb) 1 (.int .i64 ((j:Int) + 1))).trans hEd;clear c0 c1 c2 c3 c4 fr cb1;obtain ⟨c0,c1,c2,c3,c4,fr⟩:=hRd.reads;have cb1:=cell_blk (hB1.evo hE13).blk 1 (.slice ra rs.length rc) rfl)
                    | (go_at_call 107;refine (see_any w1 b s S _ hRc hs (by show j≤_;omega)).mono ?_;rw [hsee2];rintro e w2 ⟨rfl,n2,rfl⟩;have hC2:=char_any ((w1.drewN n2).setCell ⟨b,1,none⟩ (.int .i64 ((j:Int) + 1))) b s S { st1 with i:=j + 1 } 93 45 (hRc.drewN n2).inc hs (by show j + 1≤_;omega) e1;rw [show G.chr s ((93:Nat):Int) ((45:Nat):Int) ({ st1 with i:=j + 1 }:St).i=some (c,k) from hch2] at hC2)
                    | (go_at_call 158;refine hC1.mono ?_;rintro e w1 ⟨hEc,rfl,hRc⟩;have hE01:=((Evo.refl wr S).drewN n1).trans hEc;clear c0 c1 c2 c3 c4 fr cb0 cb1 cb2 cb3 cb4;obtain ⟨c0,c1,c2,c3,c4,fr⟩:=hRc.reads;have cb1:=cell_blk (hB1.evo hE01).blk 1 (.slice ra rs.length rc) rfl)
                    | (go_at_call 107;refine (see_any wr b s S st1 hR1 hs (by omega)).mono ?_;rw [hsee1];rintro e w0 ⟨rfl,n1,rfl⟩;have hC1:=char_any (wr.drewN n1) b s S st1 93 45 (hR1.drewN n1) hs i1 e1;rw [show G.chr s ((93:Nat):Int) ((45:Nat):Int) st1.i=some (a,j) from hch] at hC1)
                    | (go_at_call 110;refine (fail_any w3 b s S _ 4 st1.i hRd).mono ?_;rw [HF.out];rintro e w4 ⟨rfl,hRf,hEf⟩;have hE14:=hE13.trans hEf;clear c0 c1 c2 c3 c4 fr cb1;obtain ⟨c0,c1,c2,c3,c4,fr⟩:=hRf.reads;have cb1:=cell_blk (hB1.evo hE14).blk 1 (.slice ra rs.length rc) rfl;have HX:Hid _:=And.intro (hB1.evo (hE14)) (And.intro (hRf) (hE1.trans (hE14))))
                    | (at_builtin
                       refine wpList_append_lies _ rfl (.tmp 71) (.tmp 75) 116 rfl (w.heap.size + 1) 201 i0 (.agg #[.int .i64 0,.int .i64 0]) 2 16 Tryz.underlying116 hi hz0 hz1 hz2 rfl (by decide) (.slice ra rs.length rc) rs.length (rcells rs) rfl (HX.out.1.own.alloc _) ⟨(w4).heap.size,0,none⟩ 1 1 [.int .i64 (a:Int),.int .i64 (c:Int)] rfl rfl (World.news_of_block (cs:=#[.int .i64 (a:Int),.int .i64 (c:Int)]) (t:=201) (fr:=(0,0)) (heap_alloc_new _ _)) (fun y hy=>by simp at hy;rcases hy with rfl | rfl <;> rfl) (by decide) (by unfold maxLen;omega) (by omega) (by have:=lt_of_block HX.out.1.blk;simp at this ⊢;omega) ((w4).heap.size + 1) (by simp) ?_
                       intro g9 cap9 w9 hn9 hg9 hat9 hlt9
                       have hb9:w9.heap[w.heap.size]?=_:=(hg9.block w.heap.size (by have:=lt_of_block HX.out.1.blk;simp at this ⊢;omega) (fun e=>by have:=(HX.out.1.own.lt _ e.symm).1;omega)).trans (blk_alloc _ HX.out.1.blk)
                       have cb9:=cell_blk hb9 1 (.slice ra rs.length rc) rfl
                       have fb9:=free_blk hb9 1
                       obtain ⟨f1,f2,f3⟩:=HX.out.1.add HX.out.2.1 a c ((Kept.refl _ _).alloc _) hn9 hg9 (by rcases hat9 with h | h;exact .inl (by rw [h];rfl);exact .inr (by rw [h];simp [Value.ownBlock]))
                       have HY:Hid _:=And.intro f1 (And.intro f2 (f3 w S HX.out.2.2 (Nat.le_refl _)))
                       clear f1 f2 f3 hn9 hg9 hat9 hb9 hlt9 HX))
                  go_roundw
                  case rel =>
                    exact ⟨rs ++ [(a,c)],_,_,HY.out.2.1,HY.out.2.2,HY.out.1,hd1,hev1,hru1,hT1,.inr ⟨by simp,by show k≤_;omega,by simp;omega,HK.out⟩⟩
                  case measure =>
                    rw [HY.out.2.1.runNo (by simp),HR.out]
                    omega
                · have HK:Hid _:=k1
                  have hct:∀ r,G.R s st.env (.set o (rs ++ [(a,c)])) st.deep k st.T r→G.R s st.env (.set o rs) st.deep st1.i st.T r:=fun r hr=>G.R.setTwo h93 hch h45 hch2 (by omega) hr
                  clear k1
                  have hca':¬ (c:Int) < (a:Int):=by omega
                  go_wp2_with (first
                    | (go_at_call 158;refine hC2.mono ?_;rintro e w3 ⟨hEd,rfl,hRd⟩;have hE13:=((hE01.drewN n2).set hSb (.inl hSb) 1 (.int .i64 ((j:Int) + 1))).trans hEd;clear c0 c1 c2 c3 c4 fr cb1;obtain ⟨c0,c1,c2,c3,c4,fr⟩:=hRd.reads;have cb1:=cell_blk (hB1.evo hE13).blk 1 (.slice ra rs.length rc) rfl;have HX:Hid _:=And.intro (hB1.evo (hE13)) (And.intro (hRd) (hE1.trans (hE13))))
                    | (go_at_call 107;refine (see_any w1 b s S _ hRc hs (by show j≤_;omega)).mono ?_;rw [hsee2];rintro e w2 ⟨rfl,n2,rfl⟩;have hC2:=char_any ((w1.drewN n2).setCell ⟨b,1,none⟩ (.int .i64 ((j:Int) + 1))) b s S { st1 with i:=j + 1 } 93 45 (hRc.drewN n2).inc hs (by show j + 1≤_;omega) e1;rw [show G.chr s ((93:Nat):Int) ((45:Nat):Int) ({ st1 with i:=j + 1 }:St).i=some (c,k) from hch2] at hC2)
                    | (go_at_call 158;refine hC1.mono ?_;rintro e w1 ⟨hEc,rfl,hRc⟩;have hE01:=((Evo.refl wr S).drewN n1).trans hEc;clear c0 c1 c2 c3 c4 fr cb0 cb1 cb2 cb3 cb4;obtain ⟨c0,c1,c2,c3,c4,fr⟩:=hRc.reads;have cb1:=cell_blk (hB1.evo hE01).blk 1 (.slice ra rs.length rc) rfl)
                    | (go_at_call 107;refine (see_any wr b s S st1 hR1 hs (by omega)).mono ?_;rw [hsee1];rintro e w0 ⟨rfl,n1,rfl⟩;have hC1:=char_any (wr.drewN n1) b s S st1 93 45 (hR1.drewN n1) hs i1 e1;rw [show G.chr s ((93:Nat):Int) ((45:Nat):Int) st1.i=some (a,j) from hch] at hC1)
                    | (at_builtin
                       refine wpList_append_lies _ rfl (.tmp 71) (.tmp 75) 116 rfl (w.heap.size + 1) 201 i0 (.agg #[.int .i64 0,.int .i64 0]) 2 16 Tryz.underlying116 hi hz0 hz1 hz2 rfl (by decide) (.slice ra rs.length rc) rs.length (rcells rs) rfl (HX.out.1.own.alloc _) ⟨(w3).heap.size,0,none⟩ 1 1 [.int .i64 (a:Int),.int .i64 (c:Int)] rfl rfl (World.news_of_block (cs:=#[.int .i64 (a:Int),.int .i64 (c:Int)]) (t:=201) (fr:=(0,0)) (heap_alloc_new _ _)) (fun y hy=>by simp at hy;rcases hy with rfl | rfl <;> rfl) (by decide) (by unfold maxLen;omega) (by omega) (by have:=lt_of_block HX.out.1.blk;simp at this ⊢;omega) ((w3).heap.size + 1) (by simp) ?_
                       intro g9 cap9 w9 hn9 hg9 hat9 hlt9
                       have hb9:w9.heap[w.heap.size]?=_:=(hg9.block w.heap.size (by have:=lt_of_block HX.out.1.blk;simp at this ⊢;omega) (fun e=>by have:=(HX.out.1.own.lt _ e.symm).1;omega)).trans (blk_alloc _ HX.out.1.blk)
                       have cb9:=cell_blk hb9 1 (.slice ra rs.length rc) rfl
                       have fb9:=free_blk hb9 1
                       obtain ⟨f1,f2,f3⟩:=HX.out.1.add HX.out.2.1 a c ((Kept.refl _ _).alloc _) hn9 hg9 (by rcases hat9 with h | h;exact .inl (by rw [h];rfl);exact .inr (by rw [h];simp [Value.ownBlock]))
                       have HY:Hid _:=And.intro f1 (And.intro f2 (f3 w S HX.out.2.2 (Nat.le_refl _)))
                       clear f1 f2 f3 hn9 hg9 hat9 hb9 hlt9 HX))
                  go_roundw
                  case rel =>
                    exact ⟨rs ++ [(a,c)],_,_,HY.out.2.1,HY.out.2.2,HY.out.1,hd1,hev1,hru1,hT1,.inl ⟨e1,pl1,by show k≤_;omega,by show _≤k;omega,by show _≤k;simp;omega,fun r hr=>HK.out r (hct r hr)⟩⟩
                  case measure =>
                    rw [HY.out.2.1.runOk e1,HR.out]
                    show 3001 - k < _
                    omega
            · have hnb2:(G.pk s j == 45)=false:=by simpa using h45
              have HK:Hid _:=k1
              have hct:∀ r,G.R s st.env (.set o (rs ++ [(a,a)])) st.deep j st.T r→G.R s st.env (.set o rs) st.deep st1.i st.T r:=fun r hr=>G.R.setOne h93 hch h45 hr
              clear k1
              go_wp2_with (first
                    | (go_at_call 107;refine (see_any w1 b s S _ hRc hs (by show j≤_;omega)).mono ?_;rw [hsee2];rintro e w2 ⟨rfl,n2,rfl⟩;have HX:Hid _:=And.intro (hB1.evo (hE01.drewN n2)) (And.intro (hRc.drewN n2) (hE1.trans (hE01.drewN n2))))
                    | (go_at_call 158;refine hC1.mono ?_;rintro e w1 ⟨hEc,rfl,hRc⟩;have hE01:=((Evo.refl wr S).drewN n1).trans hEc;clear c0 c1 c2 c3 c4 fr cb0 cb1 cb2 cb3 cb4;obtain ⟨c0,c1,c2,c3,c4,fr⟩:=hRc.reads;have cb1:=cell_blk (hB1.evo hE01).blk 1 (.slice ra rs.length rc) rfl)
                    | (go_at_call 107;refine (see_any wr b s S st1 hR1 hs (by omega)).mono ?_;rw [hsee1];rintro e w0 ⟨rfl,n1,rfl⟩;have hC1:=char_any (wr.drewN n1) b s S st1 93 45 (hR1.drewN n1) hs i1 e1;rw [show G.chr s ((93:Nat):Int) ((45:Nat):Int) st1.i=some (a,j) from hch] at hC1)
                    | (at_builtin
                       refine wpList_append_lies _ rfl (.tmp 71) (.tmp 75) 116 rfl (w.heap.size + 1) 201 i0 (.agg #[.int .i64 0,.int .i64 0]) 2 16 Tryz.underlying116 hi hz0 hz1 hz2 rfl (by decide) (.slice ra rs.length rc) rs.length (rcells rs) rfl (HX.out.1.own.alloc _) ⟨(w1.drewN n2).heap.size,0,none⟩ 1 1 [.int .i64 (a:Int),.int .i64 (a:Int)] rfl rfl (World.news_of_block (cs:=#[.int .i64 (a:Int),.int .i64 (a:Int)]) (t:=201) (fr:=(0,0)) (heap_alloc_new _ _)) (fun y hy=>by simp at hy;rcases hy with rfl | rfl <;> rfl) (by decide) (by unfold maxLen;omega) (by omega) (by have:=lt_of_block HX.out.1.blk;simp at this ⊢;omega) ((w1.drewN n2).heap.size + 1) (by simp) ?_
                       intro g9 cap9 w9 hn9 hg9 hat9 hlt9
                       have hb9:w9.heap[w.heap.size]?=_:=(hg9.block w.heap.size (by have:=lt_of_block HX.out.1.blk;simp at this ⊢;omega) (fun e=>by have:=(HX.out.1.own.lt _ e.symm).1;omega)).trans (blk_alloc _ HX.out.1.blk)
                       have cb9:=cell_blk hb9 1 (.slice ra rs.length rc) rfl
                       have fb9:=free_blk hb9 1
                       obtain ⟨f1,f2,f3⟩:=HX.out.1.add HX.out.2.1 a a ((Kept.refl _ _).alloc _) hn9 hg9 (by rcases hat9 with h | h;exact .inl (by rw [h];rfl);exact .inr (by rw [h];simp [Value.ownBlock]))
                       have HY:Hid _:=And.intro f1 (And.intro f2 (f3 w S HX.out.2.2 (Nat.le_refl _)))
                       clear f1 f2 f3 hn9 hg9 hat9 hb9 hlt9 HX))
              go_roundw
              case rel =>
                exact ⟨rs ++ [(a,a)],_,_,HY.out.2.1,HY.out.2.2,HY.out.1,hd1,hev1,hru1,hT1,.inl ⟨e1,pl1,by show j≤_;omega,by show _≤j;omega,by show _≤j;simp;omega,fun r hr=>HK.out r (hct r hr)⟩⟩
              case measure =>
                rw [HY.out.2.1.runOk e1,HR.out]
                show 3001 - j < _
                omega
      · have e1':¬ (st1.err:Int)=0:=by omega
        have hN:=nodeS_any wr b s S st1 o (w.heap.size + 1) (.slice ra rs.length rc) rs hR1 hB1.own hB1.out (by rw [hT1];omega) (by rw [hT1];exact hwf.le) w S hE1 (by omega)
        go_wp2_with (go_at_call 135;refine hN.mono ?_;rintro e w2 ⟨rfl,S2,hR2,hE2⟩)
        go_ret
        refine ⟨_,_,rfl,HS.out _ k1,S2,_,hR2,hE2,hd1,hev1,hru1,rfl,rfl,e1,by show st1.i≤_;omega,by simp [hT1];omega,?_,by simp [hT1]⟩
        rw [hT1]
        exact mk_le _ _ _ _ _ hwf.le
end Rf
end Go.Proofs.YtpgcidpghmoibaaGreatDoor
