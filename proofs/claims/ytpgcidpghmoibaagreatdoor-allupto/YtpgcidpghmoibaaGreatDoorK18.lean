/-
  THE REFERENCE's READER
  THE REFERENCE's Compile
-/
import Derived.Test.YtpgcidpghmoibaaGreatDoorK05
import Derived.Test.YtpgcidpghmoibaaGreatDoorK13
import Derived.Test.YtpgcidpghmoibaaGreatDoorK17
import Derived.Test.YtpgcidpghmoibaaGreatDoorK04
namespace Go.Proofs.YtpgcidpghmoibaaGreatDoor
namespace Rf
open Go.RowKit
open G (PNode)
theorem infoName:(Tryz.prog.info? 191).map (fun i=>(i.zero,i.size,i.bytes))=some (some (.agg #[.string ⟨#[]⟩,.int .i64 0]),2,24):=by kernel_rfl
def StmPost (w:World) (b:Nat) (s:ByteArray) (S:Nat→Prop) (st:St) (w':World):Prop:=
  ∃ r S' st',G.Stm s st.env st.i st.T r∧Rd w' b s S' st'∧Evo w S w' S' ∧
    match r with
    | .rule n j T'=>st'={ st with i:=j,T:=T',rules:=st.rules ++ [n] }
    | .defn nm n j T'=>st'={ st with i:=j,T:=T',env:=st.env ++ [(nm,n)] }
    | .err c p=>st'.err=c∧c ≠ 0∧st'.place=p∧st'.i≤100000
set_option maxRecDepth 100000 in
set_option maxHeartbeats 2000000 in
theorem stm_rule (w:World) (b:Nat) (s:ByteArray) (S:Nat→Prop) (st:St) (hR:Rd w b s S st) (hs:s.size≤2000) (hP:Pre s st) (hev:st.env.length≤100000) (hru:st.rules.length≤100000) (hd:st.deep=0) (_hk:G.skip s st.i=st.i) (hp:G.pk s st.i ≠ 36) :
    Calls Tryz.prog 82 #[.pointer (some ⟨b,0,none⟩)] w fun e w'=>e=.returned (.tuple #[])∧StmPost w b s S st w':=by
  obtain ⟨i0,hi,hz0,hz1,hz2⟩:=info_parts infoInt
  obtain ⟨he0,hile,hTl,hwf,henv⟩:=id hP
  obtain ⟨hSb,_⟩:=hR.inS
  obtain ⟨c0,c1,c2,c3,c4,fr⟩:=hR.reads
  have hsee:seeV s st=G.pk s st.i:=seeV_ok he0
  have HD:Hid (st.deep=0):=hd
  clear hd
  have hpb:(G.pk s st.i == 36)=false:=by simpa using hp
  have hH:¬ G.Head s st.i:=fun h=>hp h.1
  have hfn:=fun r (hr:G.R s st.env (.expr []) 0 st.i st.T r)=>hr.fine hile hwf (by simp [G.NT.parts]) (by simp [G.NT.ranges]) henv
  go_enter Tryz.func82,Tryz.ntmps82
  go_wp2_with (first
    | (go_at_call 107;refine (see_any w b s S st hR hs (by omega)).mono ?_;rw [hsee];rintro e w2 ⟨rfl,n2,rfl⟩;have hN:=expr_all b s hs 40 0 (by omega) (by omega) (w.drewN n2) S st (hR.drewN n2) hP hev HD.out;rw [HD.out] at hN)
    | (go_at_call 111
       refine hN.mono ?_
       rintro e w3 ⟨v,r,rfl,hr,S3,st3,hR3,hE3,hd3,hev3,hru3,hm⟩
       have hE3':=((Evo.refl w S).drewN n2).trans hE3
       cases r
       case' err c p =>
         obtain ⟨z1,z2,z3,z4,z5,z6,z7⟩:=hm
         have hW:=want_both w3 b s S3 st3 59 hR3 hs (fun h=>absurd (z1.symm.trans h) z3) (by omega)
         rw [wantB_err (by rw [z1];exact z3)] at hW
         have zb:((st3.err:Int) == 0)=false:=by simp;omega
         have HG:Hid _:=G.Stm.ruleErr hH hr
         have HZ:Hid _:=And.intro z1 (And.intro z3 z2)
         clear hr z1 z2 z3
       case' ok n j T' =>
         obtain ⟨rfl,rfl⟩:=hm
         obtain ⟨f1,f2,f3,f4,f5,f6⟩:=hfn _ hr
         have hkl2:=G.skip_le s j f2
         have hW:=want_both w3 b s S3 ({ st with i:=j,T:=T' }:St) 59 hR3 hs (fun _=>f2) (by show j≤_;omega)
         by_cases h59:G.pk s (G.skip s j)=59
         case' pos =>
           rw [wantB_yes (st:=({ st with i:=j,T:=T' }:St)) (c:=59) he0 h59] at hW
           have HG:Hid _:=G.Stm.rule hH hr h59
           clear hr
         case' neg =>
           rw [wantB_no (st:=({ st with i:=j,T:=T' }:St)) (c:=59) he0 h59] at hW
           have HG:Hid _:=G.Stm.ruleForm hH hr h59
           clear hr)
    | (go_at_call 112;refine hW.mono ?_;rintro e w4 ⟨rfl,hE4,hR4⟩;clear c0 c1 c2 c3 c4 fr;obtain ⟨c0,c1,c2,c3,c4,fr⟩:=hR4.reads;obtain ⟨vN,vM,vR,V,A4,hf4,hl4⟩:=id hR4;obtain ⟨ra,rc,hre⟩:=own_len A4.oR;subst hre;have c7:=cell_blk A4.blk 7 _ rfl)
    | (at_builtin
       refine wpList_append_lies _ rfl (.tmp 77) (.tmp 79) 33 rfl 0 3 i0 (.int .i64 0) 1 8 Tryz.underlying33 hi hz0 hz1 hz2 rfl (by decide) (.slice ra st.rules.length rc) st.rules.length (ints st.rules) rfl (A4.oR.alloc _) ⟨w4.heap.size,0,none⟩ 1 1 [.int .i64 (n:Int)] rfl rfl (cell_one_new _ _ _) (fun y hy=>by simp at hy;subst hy;rfl) (by decide) (by unfold maxLen;omega) (by omega) (by simp) (w4.heap.size + 1) (by simp) ?_
       intro g9 cap9 w9 hn9 hg9 hat9 hlt9
       have hb9:w9.heap[b]?=_:=(hg9.block b (by have:=lt_of_block A4.blk;simp;omega) (fun e=>A4.nbR e.symm)).trans (blk_alloc _ A4.blk)
       have cb9:=cell_blk hb9 7 (.slice ra st.rules.length rc) rfl
       have fb9:=free_blk hb9 7
       have hfin:=addR_fin n A4 hf4 hl4 ((Kept.refl _ _).alloc _) hg9 hn9 (hat9.imp id (fun h=>by omega)) hlt9
       have HFI:Hid _:=hfin
       clear hfin hb9 hn9 hg9 hat9))
  all_goals first
    | (go_end0
       exact ⟨rfl,_,S3,_,HG.out,hR4,hE3'.trans hE4,HZ.out.1,HZ.out.2.1,HZ.out.2.2,by show st3.i + 1≤_;omega⟩)
    | (go_end0
       exact ⟨rfl,_,S3,_,HG.out,hR4,hE3'.trans hE4,rfl,by omega,rfl,by show G.skip s j + 1≤_;omega⟩)
    | (go_end0
       obtain ⟨S9,hR9,hE9⟩:=HFI.out
       exact ⟨rfl,_,S9,_,HG.out,hR9,(hE3'.trans hE4).trans hE9,rfl⟩)
set_option maxRecDepth 100000 in
set_option maxHeartbeats 2000000 in
theorem stm_rule2 (w:World) (b:Nat) (s:ByteArray) (S:Nat→Prop) (st:St) (hR:Rd w b s S st) (hs:s.size≤2000) (hP:Pre s st) (hev:st.env.length≤100000) (hru:st.rules.length≤100000) (hd:st.deep=0) (_hk:G.skip s st.i=st.i) (hp:G.pk s st.i=36) (h1:G.wend s (st.i + 1) ≠ st.i + 1) (h61:G.pk s (G.skip s (G.wend s (st.i + 1))) ≠ 61) :
    Calls Tryz.prog 82 #[.pointer (some ⟨b,0,none⟩)] w fun e w'=>e=.returned (.tuple #[])∧StmPost w b s S st w':=by
  obtain ⟨i0,hi,hz0,hz1,hz2⟩:=info_parts infoInt
  obtain ⟨he0,hile,hTl,hwf,henv⟩:=id hP
  obtain ⟨hSb,_⟩:=hR.inS
  obtain ⟨c0,c1,c2,c3,c4,fr⟩:=hR.reads
  have hsee:seeV s st=G.pk s st.i:=seeV_ok he0
  have HD:Hid (st.deep=0):=hd
  clear hd
  have hlt:=G.lt_of_pk (s:=s) (i:=st.i) (by omega)
  rw [hp] at hsee
  have hwl:=G.wend_le s (st.i + 1) (by omega)
  have hws:wordSt s st={ st with i:=G.wend s (st.i + 1) }:=by rw [wordSt,if_neg h1]
  have HW:Hid _:=hws
  clear hws
  have hql:=G.skip_le s _ hwl
  have hqg:=G.skip_ge s (G.wend s (st.i + 1))
  have hwg:=G.wend_ge s (st.i + 1)
  have hsee2:seeV s ({ st with i:=G.skip s (G.wend s (st.i + 1)) }:St)=G.pk s (G.skip s (G.wend s (st.i + 1))):=seeV_ok (st:=({ st with i:=G.skip s (G.wend s (st.i + 1)) }:St)) he0
  have hqb:(G.pk s (G.skip s (G.wend s (st.i + 1))) == 61)=false:=by simpa using h61
  have hH:¬ G.Head s st.i:=fun h=>h61 h.2.2
  have hfn:=fun r (hr:G.R s st.env (.expr []) 0 st.i st.T r)=>hr.fine hile hwf (by simp [G.NT.parts]) (by simp [G.NT.ranges]) henv
  go_enter Tryz.func82,Tryz.ntmps82
  go_wp2_with (first
    | (go_at_call 107;refine (see_any w6 b s S _ hR6 hs (by show G.skip s _≤_;omega)).mono ?_;rw [hsee2];rintro e w7 ⟨rfl,n7,rfl⟩;have hE7':=(hE6'.drewN n7).set hSb (.inl hSb) 1 (.int .i64 (st.i:Int));have hN:=expr_all b s hs 40 0 (by omega) (by omega) ((w6.drewN n7).setCell ⟨b,1,none⟩ (.int .i64 (st.i:Int))) S st ((hR6.drewN n7).setI st.i) hP hev HD.out;rw [HD.out] at hN)
    | (go_at_call 107;refine (see_any w b s S st hR hs (by omega)).mono ?_;rw [hsee];rintro e w2 ⟨rfl,n2,rfl⟩)
    | (go_at_call 108;refine (word_any (w.drewN n2) b s S st (hR.drewN n2) hs hlt he0).mono ?_;rw [HW.out];rintro e w5 ⟨rfl,hE5,hR5⟩;have hE5':=((Evo.refl w S).drewN n2).trans hE5;clear c0 c1 c2 c3 c4 fr;obtain ⟨c0,c1,c2,c3,c4,fr⟩:=hR5.reads)
    | (go_at_call 80;refine (skip_any w5 b s S ({ st with i:=G.wend s (st.i + 1) }:St) hR5 hs hwl he0).mono ?_;rintro e w6 ⟨rfl,hR6,hE6⟩;have hE6':=hE5'.trans hE6;clear c0 c1 c2 c3 c4 fr;obtain ⟨c0,c1,c2,c3,c4,fr⟩:=hR6.reads)
    | (go_at_call 111
       refine hN.mono ?_
       rintro e w3 ⟨v,r,rfl,hr,S3,st3,hR3,hE3,hd3,hev3,hru3,hm⟩
       have hE3':=(hE7').trans hE3
       cases r
       case' err c p =>
         obtain ⟨z1,z2,z3,z4,z5,z6,z7⟩:=hm
         have hW:=want_both w3 b s S3 st3 59 hR3 hs (fun h=>absurd (z1.symm.trans h) z3) (by omega)
         rw [wantB_err (by rw [z1];exact z3)] at hW
         have zb:((st3.err:Int) == 0)=false:=by simp;omega
         have HG:Hid _:=G.Stm.ruleErr hH hr
         have HZ:Hid _:=And.intro z1 (And.intro z3 z2)
         clear hr z1 z2 z3
       case' ok n j T' =>
         obtain ⟨rfl,rfl⟩:=hm
         obtain ⟨f1,f2,f3,f4,f5,f6⟩:=hfn _ hr
         have hkl2:=G.skip_le s j f2
         have hW:=want_both w3 b s S3 ({ st with i:=j,T:=T' }:St) 59 hR3 hs (fun _=>f2) (by show j≤_;omega)
         by_cases h59:G.pk s (G.skip s j)=59
         case' pos =>
           rw [wantB_yes (st:=({ st with i:=j,T:=T' }:St)) (c:=59) he0 h59] at hW
           have HG:Hid _:=G.Stm.rule hH hr h59
           clear hr
         case' neg =>
           rw [wantB_no (st:=({ st with i:=j,T:=T' }:St)) (c:=59) he0 h59] at hW
           have HG:Hid _:=G.Stm.ruleForm hH hr h59
           clear hr)
    | (go_at_call 112;refine hW.mono ?_;rintro e w4 ⟨rfl,hE4,hR4⟩;clear c0 c1 c2 c3 c4 fr;obtain ⟨c0,c1,c2,c3,c4,fr⟩:=hR4.reads;obtain ⟨vN,vM,vR,V,A4,hf4,hl4⟩:=id hR4;obtain ⟨ra,rc,hre⟩:=own_len A4.oR;subst hre;have c7:=cell_blk A4.blk 7 _ rfl)
    | (at_builtin
       refine wpList_append_lies _ rfl (.tmp 77) (.tmp 79) 33 rfl 0 3 i0 (.int .i64 0) 1 8 Tryz.underlying33 hi hz0 hz1 hz2 rfl (by decide) (.slice ra st.rules.length rc) st.rules.length (ints st.rules) rfl (A4.oR.alloc _) ⟨w4.heap.size,0,none⟩ 1 1 [.int .i64 (n:Int)] rfl rfl (cell_one_new _ _ _) (fun y hy=>by simp at hy;subst hy;rfl) (by decide) (by unfold maxLen;omega) (by omega) (by simp) (w4.heap.size + 1) (by simp) ?_
       intro g9 cap9 w9 hn9 hg9 hat9 hlt9
       have hb9:w9.heap[b]?=_:=(hg9.block b (by have:=lt_of_block A4.blk;simp;omega) (fun e=>A4.nbR e.symm)).trans (blk_alloc _ A4.blk)
       have cb9:=cell_blk hb9 7 (.slice ra st.rules.length rc) rfl
       have fb9:=free_blk hb9 7
       have hfin:=addR_fin n A4 hf4 hl4 ((Kept.refl _ _).alloc _) hg9 hn9 (hat9.imp id (fun h=>by omega)) hlt9
       have HFI:Hid _:=hfin
       clear hfin hb9 hn9 hg9 hat9))
  all_goals first
    | (go_end0
       exact ⟨rfl,_,S3,_,HG.out,hR4,hE3'.trans hE4,HZ.out.1,HZ.out.2.1,HZ.out.2.2,by show st3.i + 1≤_;omega⟩)
    | (go_end0
       exact ⟨rfl,_,S3,_,HG.out,hR4,hE3'.trans hE4,rfl,by omega,rfl,by show G.skip s j + 1≤_;omega⟩)
    | (go_end0
       obtain ⟨S9,hR9,hE9⟩:=HFI.out
       exact ⟨rfl,_,S9,_,HG.out,hR9,(hE3'.trans hE4).trans hE9,rfl⟩)
set_option maxRecDepth 100000 in
set_option maxHeartbeats 2000000 in
theorem stm_def (w:World) (b:Nat) (s:ByteArray) (S:Nat→Prop) (st:St) (hR:Rd w b s S st) (hs:s.size≤2000) (hP:Pre s st) (hev:st.env.length≤100000) (_hru:st.rules.length≤100000) (hd:st.deep=0) (_hk:G.skip s st.i=st.i) (hp:G.pk s st.i=36) (h1:G.wend s (st.i + 1) ≠ st.i + 1) (h61:G.pk s (G.skip s (G.wend s (st.i + 1)))=61) (hlo:G.lookup st.env (G.name s st.i)=none) :
    Calls Tryz.prog 82 #[.pointer (some ⟨b,0,none⟩)] w fun e w'=>e=.returned (.tuple #[])∧StmPost w b s S st w':=by
  obtain ⟨i0,hi,hz0,hz1,hz2⟩:=info_parts infoName
  obtain ⟨he0,hile,hTl,hwf,henv⟩:=id hP
  obtain ⟨hSb,_⟩:=hR.inS
  obtain ⟨c0,c1,c2,c3,c4,fr⟩:=hR.reads
  have hsee:seeV s st=G.pk s st.i:=seeV_ok he0
  have HD:Hid (st.deep=0):=hd
  clear hd
  have hlt:=G.lt_of_pk (s:=s) (i:=st.i) (by omega)
  rw [hp] at hsee
  have hwl:=G.wend_le s (st.i + 1) (by omega)
  have hws:wordSt s st={ st with i:=G.wend s (st.i + 1) }:=by rw [wordSt,if_neg h1]
  have HW:Hid _:=hws
  clear hws
  have hql:=G.skip_le s _ hwl
  have hqg:=G.skip_ge s (G.wend s (st.i + 1))
  have hwg:=G.wend_ge s (st.i + 1)
  have hsee2:seeV s ({ st with i:=G.skip s (G.wend s (st.i + 1)) }:St)=G.pk s (G.skip s (G.wend s (st.i + 1))):=seeV_ok (st:=({ st with i:=G.skip s (G.wend s (st.i + 1)) }:St)) he0
  rw [h61] at hsee2
  have hqlt:=G.lt_of_pk (s:=s) (i:=G.skip s (G.wend s (st.i + 1))) (by omega)
  have hH:G.Head s st.i:=⟨hp,h1,h61⟩
  have hfv:findV st.env (G.name s st.i)=-1:=by unfold findV;rw [hlo]
  have HLO:Hid _:=hlo
  clear hlo
  have hP1:Pre s ({ st with i:=G.skip s (G.wend s (st.i + 1)) + 1 }:St):=⟨he0,hqlt,by show st.T.length≤4 * (G.skip s (G.wend s (st.i + 1)) + 1);omega,hwf,henv⟩
  have hfn:=fun r (hr:G.R s st.env (.expr []) 0 (G.skip s (G.wend s (st.i + 1)) + 1) st.T r)=>hr.fine hqlt hwf (by simp [G.NT.parts]) (by simp [G.NT.ranges]) henv
  go_enter Tryz.func82,Tryz.ntmps82
  go_wp2_with (first
    | (go_at_call 107;refine (see_any w6 b s S _ hR6 hs (by show G.skip s _≤_;omega)).mono ?_;rw [hsee2];rintro e w7 ⟨rfl,n7,rfl⟩;have hE7':=(hE6'.drewN n7).set hSb (.inl hSb) 1 (.int .i64 ((G.skip s (G.wend s (st.i + 1)):Int) + 1));have hN:=expr_all b s hs 40 0 (by omega) (by omega) ((w6.drewN n7).setCell ⟨b,1,none⟩ (.int .i64 ((G.skip s (G.wend s (st.i + 1)):Int) + 1))) S _ (hR6.drewN n7).inc hP1 hev HD.out)
    | (go_at_call 109;refine (find_any _ b s S _ (G.name s st.i) (hR6.drewN n7) hev).mono ?_;rw [show findV ({ st with i:=G.skip s (G.wend s (st.i + 1)) }:St).env (G.name s st.i)=-1 from hfv];rintro e w8 ⟨rfl,rfl⟩)
    | (go_at_call 107;refine (see_any w b s S st hR hs (by omega)).mono ?_;rw [hsee];rintro e w2 ⟨rfl,n2,rfl⟩)
    | (go_at_call 108;refine (word_any (w.drewN n2) b s S st (hR.drewN n2) hs hlt he0).mono ?_;rw [HW.out];rintro e w5 ⟨rfl,hE5,hR5⟩;have hE5':=((Evo.refl w S).drewN n2).trans hE5;clear c0 c1 c2 c3 c4 fr;obtain ⟨c0,c1,c2,c3,c4,fr⟩:=hR5.reads)
    | (go_at_call 80;refine (skip_any w5 b s S ({ st with i:=G.wend s (st.i + 1) }:St) hR5 hs hwl he0).mono ?_;rintro e w6 ⟨rfl,hR6,hE6⟩;have hE6':=hE5'.trans hE6;clear c0 c1 c2 c3 c4 fr;obtain ⟨c0,c1,c2,c3,c4,fr⟩:=hR6.reads)
    | (go_at_call 111
       refine hN.mono ?_
       rintro e w3 ⟨v,r,rfl,hr,S3,st3,hR3,hE3,hd3,hev3,hru3,hm⟩
       replace hr:G.R s st.env (.expr []) 0 (G.skip s (G.wend s (st.i + 1)) + 1) st.T r:=by have h:=hr;rw [show ({ st with i:=G.skip s (G.wend s (st.i + 1)) + 1 }:St).deep=0 from HD.out] at h;exact h
       have hE3':=(hE7').trans hE3
       cases r
       case' err c p =>
         obtain ⟨z1,z2,z3,z4,z5,z6,z7⟩:=hm
         have hW:=want_both w3 b s S3 st3 59 hR3 hs (fun h=>absurd (z1.symm.trans h) z3) (by omega)
         rw [wantB_err (by rw [z1];exact z3)] at hW
         have zb:((st3.err:Int) == 0)=false:=by simp;omega
         have HG:Hid _:=G.Stm.defErr hH HLO.out hr
         have HZ:Hid _:=And.intro z1 (And.intro z3 z2)
         clear hr z1 z2 z3
       case' ok n j T' =>
         obtain ⟨rfl,rfl⟩:=hm
         obtain ⟨f1,f2,f3,f4,f5,f6⟩:=hfn _ hr
         have hkl2:=G.skip_le s j f2
         have hW:=want_both w3 b s S3 ({ st with i:=j,T:=T' }:St) 59 hR3 hs (fun _=>f2) (by show j≤_;omega)
         by_cases h59:G.pk s (G.skip s j)=59
         case' pos =>
           rw [wantB_yes (st:=({ st with i:=j,T:=T' }:St)) (c:=59) he0 h59] at hW
           have HG:Hid _:=G.Stm.defn hH HLO.out hr h59
           clear hr
         case' neg =>
           rw [wantB_no (st:=({ st with i:=j,T:=T' }:St)) (c:=59) he0 h59] at hW
           have HG:Hid _:=G.Stm.defForm hH HLO.out hr h59
           clear hr)
    | (go_at_call 112;refine hW.mono ?_;rintro e w4 ⟨rfl,hE4,hR4⟩;clear c0 c1 c2 c3 c4 fr;obtain ⟨c0,c1,c2,c3,c4,fr⟩:=hR4.reads;obtain ⟨vN,vM,vR,V,A4,hf4,hl4⟩:=id hR4;obtain ⟨ra,rc,hre⟩:=own_len A4.oM;subst hre;have c7:=cell_blk A4.blk 6 _ rfl)
    | (at_builtin
       refine wpList_append_lies _ rfl (.tmp 52) (.tmp 56) 32 rfl 0 191 i0 _ 2 24 Tryz.underlying32 hi hz0 hz1 hz2 rfl (by decide) (.slice ra st.env.length rc) st.env.length (ecells st.env) rfl (A4.oM.alloc _) ⟨w4.heap.size,0,none⟩ 1 1 [.string (G.name s st.i),.int .i64 (n:Int)] rfl rfl (World.news_of_block (cs:=#[.string (G.name s st.i),.int .i64 (n:Int)]) (t:=191) (fr:=(0,0)) (heap_alloc_new _ _)) (fun y hy=>by simp at hy;rcases hy with rfl | rfl <;> rfl) (by decide) (by unfold maxLen;omega) (by omega) (by simp) (w4.heap.size + 1) (by simp) ?_
       intro g9 cap9 w9 hn9 hg9 hat9 hlt9
       have hb9:w9.heap[b]?=_:=(hg9.block b (by have:=lt_of_block A4.blk;simp;omega) (fun e=>A4.nbM e.symm)).trans (blk_alloc _ A4.blk)
       have cb9:=cell_blk hb9 6 (.slice ra st.env.length rc) rfl
       have fb9:=free_blk hb9 6
       have hfin:=addM_fin (G.name s st.i) n A4 hf4 hl4 ((Kept.refl _ _).alloc _) hg9 hn9 (hat9.imp id (fun h=>by omega)) hlt9
       have HFI:Hid _:=hfin
       clear hfin hb9 hn9 hg9 hat9))
  all_goals first
    | (refine bodyPost_ret (results_none rfl _ _ _) rfl ?_
       exact ⟨rfl,_,S3,_,HG.out,hR4,hE3'.trans hE4,HZ.out.1,HZ.out.2.1,HZ.out.2.2,by show st3.i + 1≤_;omega⟩)
    | (refine bodyPost_ret (results_none rfl _ _ _) rfl ?_
       exact ⟨rfl,_,S3,_,HG.out,hR4,hE3'.trans hE4,rfl,by omega,rfl,by show G.skip s j + 1≤_;omega⟩)
    | (refine bodyPost_ret (results_none rfl _ _ _) rfl ?_
       obtain ⟨S9,hR9,hE9⟩:=HFI.out
       exact ⟨rfl,_,S9,_,HG.out,hR9,(hE3'.trans hE4).trans hE9,rfl⟩)
set_option maxRecDepth 100000 in
set_option maxHeartbeats 2000000 in
theorem stm_dup (w:World) (b:Nat) (s:ByteArray) (S:Nat→Prop) (st:St) (hR:Rd w b s S st) (hs:s.size≤2000) (hP:Pre s st) (hev:st.env.length≤100000) (_hru:st.rules.length≤100000) (hd:st.deep=0) (_hk:G.skip s st.i=st.i) (hp:G.pk s st.i=36) (h1:G.wend s (st.i + 1) ≠ st.i + 1) (h61:G.pk s (G.skip s (G.wend s (st.i + 1)))=61) (m:Nat) (hlo:G.lookup st.env (G.name s st.i)=some m) :
    Calls Tryz.prog 82 #[.pointer (some ⟨b,0,none⟩)] w fun e w'=>e=.returned (.tuple #[])∧StmPost w b s S st w':=by
  obtain ⟨i0,hi,hz0,hz1,hz2⟩:=info_parts infoInt
  obtain ⟨he0,hile,hTl,hwf,henv⟩:=id hP
  obtain ⟨hSb,_⟩:=hR.inS
  obtain ⟨c0,c1,c2,c3,c4,fr⟩:=hR.reads
  have hsee:seeV s st=G.pk s st.i:=seeV_ok he0
  have HD:Hid (st.deep=0):=hd
  clear hd
  have hlt:=G.lt_of_pk (s:=s) (i:=st.i) (by omega)
  rw [hp] at hsee
  have hwl:=G.wend_le s (st.i + 1) (by omega)
  have hws:wordSt s st={ st with i:=G.wend s (st.i + 1) }:=by rw [wordSt,if_neg h1]
  have HW:Hid _:=hws
  clear hws
  have hql:=G.skip_le s _ hwl
  have hqg:=G.skip_ge s (G.wend s (st.i + 1))
  have hwg:=G.wend_ge s (st.i + 1)
  have hsee2:seeV s ({ st with i:=G.skip s (G.wend s (st.i + 1)) }:St)=G.pk s (G.skip s (G.wend s (st.i + 1))):=seeV_ok (st:=({ st with i:=G.skip s (G.wend s (st.i + 1)) }:St)) he0
  rw [h61] at hsee2
  have hqlt:=G.lt_of_pk (s:=s) (i:=G.skip s (G.wend s (st.i + 1))) (by omega)
  have hH:G.Head s st.i:=⟨hp,h1,h61⟩
  have hfv:findV st.env (G.name s st.i)=(m:Int):=by unfold findV;rw [hlo]
  have HG:Hid (G.Stm s st.env st.i st.T _):=G.Stm.dup hH hlo
  clear hlo
  have hfa:failed { st with i:=G.skip s (G.wend s (st.i + 1)) } 3 st.i={ st with i:=G.skip s (G.wend s (st.i + 1)),err:=3,place:=st.i }:=by rw [failed,if_pos he0]
  have HF:Hid _:=hfa
  clear hfa
  go_enter Tryz.func82,Tryz.ntmps82
  go_wp2_with (first
    | (go_at_call 107;refine (see_any w6 b s S _ hR6 hs (by show G.skip s _≤_;omega)).mono ?_;rw [hsee2];rintro e w7 ⟨rfl,n7,rfl⟩)
    | (go_at_call 109;refine (find_any _ b s S _ (G.name s st.i) (hR6.drewN n7) hev).mono ?_;rw [show findV ({ st with i:=G.skip s (G.wend s (st.i + 1)) }:St).env (G.name s st.i)=(m:Int) from hfv];rintro e w8 ⟨rfl,rfl⟩)
    | (go_at_call 110;refine (fail_any _ b s S _ 3 st.i (hR6.drewN n7)).mono ?_;rw [HF.out];rintro e w9 ⟨rfl,hR9,hE9⟩;clear c0 c1 c2 c3 c4 fr;obtain ⟨c0,c1,c2,c3,c4,fr⟩:=hR9.reads;have hE9':=((hE6'.drewN n7).trans hE9).set hSb (.inl hSb) 1 (.int .i64 ((G.skip s (G.wend s (st.i + 1)):Int) + 1));have hN:=expr_no _ b s S _ hR9.inc (by show (3:Nat) ≠ 0;omega) (by show st.T.length≤_;omega) hwf.le)
    | (go_at_call 111;refine hN.mono ?_;rintro e w10 ⟨rfl,S3,hR10,hE10⟩;have hW:=want_no w10 b s S3 _ 59 hR10 hs (by show G.skip s (G.wend s (st.i + 1)) + 1≤_;omega) (by show (3:Nat) ≠ 0;omega))
    | (go_at_call 112;refine hW.mono ?_;rintro e w11 ⟨rfl,hE11,hR11⟩;clear c0 c1 c2 c3 c4 fr;obtain ⟨c0,c1,c2,c3,c4,fr⟩:=hR11.reads)
    | (go_at_call 107;refine (see_any w b s S st hR hs (by omega)).mono ?_;rw [hsee];rintro e w2 ⟨rfl,n2,rfl⟩)
    | (go_at_call 108;refine (word_any (w.drewN n2) b s S st (hR.drewN n2) hs hlt he0).mono ?_;rw [HW.out];rintro e w5 ⟨rfl,hE5,hR5⟩;have hE5':=((Evo.refl w S).drewN n2).trans hE5;clear c0 c1 c2 c3 c4 fr;obtain ⟨c0,c1,c2,c3,c4,fr⟩:=hR5.reads)
    | (go_at_call 80;refine (skip_any w5 b s S ({ st with i:=G.wend s (st.i + 1) }:St) hR5 hs hwl he0).mono ?_;rintro e w6 ⟨rfl,hR6,hE6⟩;have hE6':=hE5'.trans hE6;clear c0 c1 c2 c3 c4 fr;obtain ⟨c0,c1,c2,c3,c4,fr⟩:=hR6.reads))
  refine bodyPost_ret (results_none rfl _ _ _) rfl ?_
  exact ⟨rfl,_,S3,_,HG.out,hR11,(hE9'.trans hE10).trans hE11,rfl,by omega,rfl,by show G.skip s (G.wend s (st.i + 1)) + 1 + 1≤_;omega⟩
set_option maxRecDepth 100000 in
set_option maxHeartbeats 2000000 in
theorem stm_bad (w:World) (b:Nat) (s:ByteArray) (S:Nat→Prop) (st:St) (hR:Rd w b s S st) (hs:s.size≤2000) (hP:Pre s st) (_hev:st.env.length≤100000) (_hru:st.rules.length≤100000) (hd:st.deep=0) (hk:G.skip s st.i=st.i) (hp:G.pk s st.i=36) (h1:G.wend s (st.i + 1)=st.i + 1) :
    Calls Tryz.prog 82 #[.pointer (some ⟨b,0,none⟩)] w fun e w'=>e=.returned (.tuple #[])∧StmPost w b s S st w':=by
  obtain ⟨i0,hi,hz0,hz1,hz2⟩:=info_parts infoInt
  obtain ⟨he0,hile,hTl,hwf,henv⟩:=id hP
  obtain ⟨hSb,_⟩:=hR.inS
  obtain ⟨c0,c1,c2,c3,c4,fr⟩:=hR.reads
  have hsee:seeV s st=G.pk s st.i:=seeV_ok he0
  have HD:Hid (st.deep=0):=hd
  clear hd
  have hlt:=G.lt_of_pk (s:=s) (i:=st.i) (by omega)
  rw [hp] at hsee
  have hwl:=G.wend_le s (st.i + 1) (by omega)
  have hws:wordSt s st={ st with i:=st.i + 1,err:=2,place:=st.i }:=by rw [wordSt,if_pos h1]
  have HW:Hid _:=hws
  clear hws
  have hH:¬ G.Head s st.i:=fun h=>h.2.1 h1
  have HG:Hid (G.Stm s st.env st.i st.T _):=G.Stm.ruleErr hH (G.bare_dollar hk hp h1)
  clear hk
  go_enter Tryz.func82,Tryz.ntmps82
  go_wp2_with (first
    | (go_at_call 107;refine (see_any w6 b s S _ hR6 hs (by show st.i + 1≤_;omega)).mono ?_;rw [seeV_no (by show (2:Nat) ≠ 0;omega)];rintro e w7 ⟨rfl,n7,rfl⟩;have hE7':=(hE6'.drewN n7).set hSb (.inl hSb) 1 (.int .i64 (st.i:Int));have hN:=expr_no ((w6.drewN n7).setCell ⟨b,1,none⟩ (.int .i64 (st.i:Int))) b s S _ ((hR6.drewN n7).setI st.i) (by show (2:Nat) ≠ 0;omega) (by show st.T.length≤_;omega) hwf.le)
    | (go_at_call 80;refine (skip_no w5 b s S _ hR5 hs (by show st.i + 1≤_;omega) (by show (2:Nat) ≠ 0;omega)).mono ?_;rintro e w6 ⟨rfl,hR6,hE6⟩;have hE6':=hE5'.trans hE6;clear c0 c1 c2 c3 c4 fr;obtain ⟨c0,c1,c2,c3,c4,fr⟩:=hR6.reads)
    | (go_at_call 111;refine hN.mono ?_;rintro e w10 ⟨rfl,S3,hR10,hE10⟩;have hW:=want_no w10 b s S3 _ 59 hR10 hs (by show st.i≤_;omega) (by show (2:Nat) ≠ 0;omega))
    | (go_at_call 112;refine hW.mono ?_;rintro e w11 ⟨rfl,hE11,hR11⟩;clear c0 c1 c2 c3 c4 fr;obtain ⟨c0,c1,c2,c3,c4,fr⟩:=hR11.reads)
    | (go_at_call 107;refine (see_any w b s S st hR hs (by omega)).mono ?_;rw [hsee];rintro e w2 ⟨rfl,n2,rfl⟩)
    | (go_at_call 108;refine (word_any (w.drewN n2) b s S st (hR.drewN n2) hs hlt he0).mono ?_;rw [HW.out];rintro e w5 ⟨rfl,hE5,hR5⟩;have hE5':=((Evo.refl w S).drewN n2).trans hE5;clear c0 c1 c2 c3 c4 fr;obtain ⟨c0,c1,c2,c3,c4,fr⟩:=hR5.reads))
  go_end0
  exact ⟨rfl,_,S3,_,HG.out,hR11,(hE7'.trans hE10).trans hE11,rfl,by omega,rfl,by show st.i + 1≤_;omega⟩
theorem stm_any (w:World) (b:Nat) (s:ByteArray) (S:Nat→Prop) (st:St) (hR:Rd w b s S st) (hs:s.size≤2000) (hP:Pre s st) (hev:st.env.length≤100000) (hru:st.rules.length≤100000) (hd:st.deep=0) (hk:G.skip s st.i=st.i) :
    Calls Tryz.prog 82 #[.pointer (some ⟨b,0,none⟩)] w fun e w'=>e=.returned (.tuple #[])∧StmPost w b s S st w':=by
  by_cases hp:G.pk s st.i=36
  · by_cases h1:G.wend s (st.i + 1)=st.i + 1
    · exact stm_bad w b s S st hR hs hP hev hru hd hk hp h1
    · by_cases h61:G.pk s (G.skip s (G.wend s (st.i + 1)))=61
      · cases hlo:G.lookup st.env (G.name s st.i) with
        | none=>exact stm_def w b s S st hR hs hP hev hru hd hk hp h1 h61 hlo
        | some m=>exact stm_dup w b s S st hR hs hP hev hru hd hk hp h1 h61 m hlo
      · exact stm_rule2 w b s S st hR hs hP hev hru hd hk hp h1 h61
  · exact stm_rule w b s S st hR hs hP hev hru hd hk hp
end Rf
end Go.Proofs.YtpgcidpghmoibaaGreatDoor

namespace Go.Proofs.YtpgcidpghmoibaaGreatDoor
namespace Rf
open Go.RowKit
open G (PNode)
def AllAt (b:Nat) (s:ByteArray) (P:World→List PNode→List Nat→Prop):Prop:=
  ∀ (w:World) (S:Nat→Prop) (st:St),Rd w b s S st→(∀ k,S k→b≤k)→G.WF st.T→st.T.length≤8000→(∀ q ∈ st.rules,q < st.T.length)→st.rules.length≤50→G.sizeOf st.T st.rules≤100 →
    Calls Tryz.prog 83 #[.pointer (some ⟨b,0,none⟩)] w fun e w'=>e=.returned (.tuple #[])∧P w' st.T st.rules∧∃ S',Evo w S w' S'
set_option maxRecDepth 100000 in
set_option maxHeartbeats 1000000 in
theorem comp_long (w:World) (s:ByteArray) (hs:2000 < s.size) (_hm:s.size≤maxLen) :
    Calls Tryz.prog 53 #[.string s] w fun e w'=>e=.returned (.tuple #[.pointer (some ⟨w.heap.size,0,none⟩),.int .i64 0,.int .i64 1])∧Below w.heap.size w w':=by
  have hs':(2000:Int) < (s.size:Int):=by omega
  go_enter Tryz.func53,Tryz.ntmps53
  go_wp2
  go_ret3
  exact ⟨rfl,(Below.refl _ _).alloc (Nat.le_refl _) _⟩
def CompPost (w:World) (s:ByteArray) (P:World→List PNode→List Nat→Prop) (e:Ending) (w':World):Prop:=
  Below w.heap.size w w'∧∃ r,G.Src s 0 [] [] [] r∧match r with
    | .err c p=>c ≠ 0∧e=.returned (.tuple #[.pointer (some ⟨w.heap.size,0,none⟩),.int .i64 (p:Int),.int .i64 (c:Int)])
    | .ok Q T=>G.WF T∧(∀ q ∈ Q,q < T.length) ∧
      ((50 < Q.length ∨ 100 < G.sizeOf T Q)∧e=.returned (.tuple #[.pointer (some ⟨w.heap.size,0,none⟩),.int .i64 0,.int .i64 6]) ∨
       (Q.length≤50∧G.sizeOf T Q≤100)∧P w' T Q∧e=.returned (.tuple #[.pointer (some ⟨w.heap.size,0,none⟩),.int .i64 0,.int .i64 0]))
theorem Evo.below {w w':World} {S:Nat→Prop} (h:Evo w (fun _=>False) w' S):Below w.heap.size w w':=⟨h.kept.os,h.kept.tape,h.kept.output,h.kept.size,fun k hk=>h.kept.block k hk (fun h=>h)⟩
theorem Rd.start (w:World) (s:ByteArray):Rd (w.alloc (.cells (rcellsOf s ⟨0,0,0,0,[],[],[]⟩ (.slice none 0 0) (.slice none 0 0) (.slice none 0 0)) 36)) w.heap.size s (fun k=>k=w.heap.size) ⟨0,0,0,0,[],[],[]⟩:=by
  have nn:∀ k,(Value.slice none 0 0).ownBlock ≠ some k:=fun k e=>by simp [Value.ownBlock] at e
  refine ⟨.slice none 0 0,.slice none 0 0,.slice none 0 0,[],⟨heap_alloc_new w _,rfl,World.ownsRow_nil _ _ _ _,World.ownsRow_nil _ _ _ _,World.ownsRow_nil _ _ _ _,fun k x v hx=>by simp at hx,nn _,nn _,nn _,fun k e=>absurd e (nn k),fun k e=>absurd e (nn k),fun k e=>absurd e (nn k),fun x hx=>by simp at hx⟩,?_,?_⟩
  · rintro k (h | h | h | h | ⟨x,hx,_⟩)
    · exact h
    · exact absurd h (nn k)
    · exact absurd h (nn k)
    · exact absurd h (nn k)
    · simp at hx
  · rintro k rfl
    simp
set_option maxRecDepth 100000 in
set_option maxHeartbeats 4000000 in
theorem comp_any (w:World) (s:ByteArray) (P:World→List PNode→List Nat→Prop) (hs:s.size≤2000) (hA:AllAt w.heap.size s P) :
    Calls Tryz.prog 53 #[.string s] w fun e w'=>CompPost w s P e w':=by
  have hs':¬ (2000:Int) < (s.size:Int):=by omega
  have hR0:=Rd.start w s
  have hE0:Evo w (fun _=>False) (w.alloc (.cells (rcellsOf s ⟨0,0,0,0,[],[],[]⟩ (.slice none 0 0) (.slice none 0 0) (.slice none 0 0)) 36)) (fun k=>k=w.heap.size):=⟨(Kept.refl _ _).alloc _,fun k e=>.inr (by omega)⟩
  have H0:Hid _:=And.intro hR0 hE0
  clear hR0 hE0
  go_enter Tryz.func53,Tryz.ntmps53
  go_wp2
  go_loopw [] (fun wr=>∃ (S1:Nat→Prop) (st1:St),Rd wr w.heap.size s S1 st1∧Evo w (fun _=>False) wr S1 ∧
      ((st1.err=0∧st1.place=0∧st1.deep=0∧st1.i≤s.size∧st1.T.length≤4 * st1.i∧G.WF st1.T∧(∀ x ∈ st1.env,x.2 < st1.T.length)∧st1.env.length≤st1.i∧st1.rules.length≤st1.i∧(∀ q ∈ st1.rules,q < st1.T.length)∧∀ r,G.Src s st1.i st1.env st1.rules st1.T r→G.Src s 0 [] [] [] r) ∨
       (st1.err ≠ 0∧st1.i≤100000∧G.Src s 0 [] [] [] (.err st1.err st1.place))))
    (fun wr=>runM w.heap.size wr)
  case atStart=>exact ⟨_,_,H0.out.1,H0.out.2,.inl ⟨rfl,rfl,rfl,Nat.zero_le _,Nat.le_refl _,fun k x hx=>by simp at hx,by simp,by simp,by simp,by simp,fun r h=>h⟩⟩
  case round =>
    obtain ⟨S1,st1,hR1,hE1,hmode⟩:=hrel
    rcases hmode with ⟨e1,pl1,d1,i1,T1,wf1,en1,el1,rl1,q1,k1⟩ | ⟨e1,i1,k1⟩
    · have hkl:=G.skip_le s st1.i i1
      have hkg:=G.skip_ge s st1.i
      have HR:Hid (runM w.heap.size wr=3001 - st1.i):=hR1.runOk e1
      by_cases hk:G.skip s st1.i < s.size
      · have hmo:moreB s ({ st1 with i:=G.skip s st1.i }:St)=true:=by simp [moreB,e1,hk]
        have hP1:Pre s ({ st1 with i:=G.skip s st1.i }:St):=⟨e1,hkl,by show st1.T.length≤4 * G.skip s st1.i;omega,wf1,en1⟩
        have hfn:=fun r (hr:G.Stm s st1.env (G.skip s st1.i) st1.T r)=>hr.fine hkl wf1 en1 (by omega)
        go_wp2_with (first
          | (go_at_call 80;refine (skip_any wr _ s S1 st1 hR1 hs i1 e1).mono ?_;rintro e w1 ⟨rfl,hR2,hE2⟩)
          | (go_at_call 81;refine (more_any w1 _ s S1 _ hR2 hs (by show G.skip s st1.i≤_;omega)).mono ?_;rw [hmo];rintro e w2 ⟨rfl,n2,rfl⟩;have hN:=stm_any (w1.drewN n2) w.heap.size s S1 ({ st1 with i:=G.skip s st1.i }:St) (hR2.drewN n2) hs hP1 (by show st1.env.length≤_;omega) (by show st1.rules.length≤_;omega) d1 (G.skip_skip s st1.i))
          | (go_at_call 82
             refine hN.mono ?_
             rintro e w3 ⟨rfl,r,S3,st3,hstm,hR3,hE3,hm⟩
             have hE4:=((hE1.trans hE2).drewN n2).trans hE3
             have hf:=hfn r hstm
             have HX:Hid _:=And.intro hstm (And.intro hR3 (And.intro hE4 hm))
             clear hstm hR3 hE4 hm hE3))
        obtain ⟨hstm,hR3,hE4,hm⟩:=HX.out
        cases r with
        | err c p =>
          obtain ⟨z1,z2,z3,z4⟩:=hm
          refine ⟨⟨S3,st3,hR3,hE4,.inr ⟨by omega,z4,?_⟩⟩,?_⟩
          · rw [z1,z3]
            exact k1 _ (G.Src.err hk hstm)
          · rw [hR3.runNo (by omega),HR.out]
            omega
        | rule n j T' =>
          obtain ⟨f1,f2,f3,f4,f5,f6⟩:=hf
          subst hm
          refine ⟨⟨S3,_,hR3,hE4,.inl ⟨e1,pl1,d1,f2,f6,f4,fun x hx=>by have:=en1 x hx;show x.2 < T'.length;omega,by show st1.env.length≤j;omega,by show (st1.rules ++ [n]).length≤j;simp;omega,?_,fun r hr=>k1 r (G.Src.rule hk hstm hr)⟩⟩,?_⟩
          · intro q hq
            show q < T'.length
            rcases List.mem_append.1 hq with hq | hq
            · have:=q1 q hq;omega
            · simp only [List.mem_singleton] at hq;omega
          · rw [hR3.runOk e1,HR.out]
            show 3001 - j < _
            omega
        | defn nm n j T' =>
          obtain ⟨f1,f2,f3,f4,f5,f6⟩:=hf
          subst hm
          refine ⟨⟨S3,_,hR3,hE4,.inl ⟨e1,pl1,d1,f2,f6,f4,?_,by show (st1.env ++ [(nm,n)]).length≤j;simp;omega,by show st1.rules.length≤j;omega,fun q hq=>by have:=q1 q hq;show q < T'.length;omega,fun r hr=>k1 r (G.Src.defn hk hstm hr)⟩⟩,?_⟩
          · intro x hx
            show x.2 < T'.length
            rcases List.mem_append.1 hx with hx | hx
            · have:=en1 x hx;omega
            · simp only [List.mem_singleton] at hx;subst hx;exact f3
          · rw [hR3.runOk e1,HR.out]
            show 3001 - j < _
            omega
      · have hmo:moreB s ({ st1 with i:=G.skip s st1.i }:St)=false:=by simp [moreB,e1];omega
        have hsr:=k1 _ (G.Src.done hk)
        have HSR:Hid _:=hsr
        clear hsr k1
        by_cases hbig:50 < st1.rules.length ∨ 100 < G.sizeOf st1.T st1.rules
        · have hB1:50 < st1.rules.length ∨ (¬ 50 < st1.rules.length∧100 < G.sizeOf st1.T st1.rules):=by omega
          have HB:Hid _:=And.intro hbig (And.intro wf1 q1)
          rcases hB1 with hb1 | ⟨hb1,hb2⟩
          all_goals
            go_wp2_with (first
              | (go_at_call 80
                 refine (skip_any wr _ s S1 st1 hR1 hs i1 e1).mono ?_
                 rintro e w1 ⟨rfl,hR2,hE2⟩
                 obtain ⟨c0,c1,c2,c3,c4,fr⟩:=hR2.reads
                 have c2':w1.cell? ⟨w.heap.size,2,none⟩=some (.int .i64 0):=c2.trans (by show some (Value.int .i64 ((st1.err:Nat):Int))=_;rw [e1];rfl)
                 clear c2
                 obtain ⟨vN,vM,vR,V,A,hf,hl⟩:=id hR2
                 obtain ⟨ra,rc,hre⟩:=own_len A.oR
                 subst hre
                 have c7:=cell_blk A.blk 7 (.slice ra st1.rules.length rc) rfl)
              | (go_at_call 81
                 refine (more_any w1 _ s S1 _ hR2 hs (by show G.skip s st1.i≤_;omega)).mono ?_
                 rw [hmo]
                 rintro e w2 ⟨rfl,n2,rfl⟩
                 obtain ⟨vN2,vM2,vR2,V2,A2,_,_⟩:=hR2.drewN n2
                 have hN:=places_any _ _ _ _ _ _ _ _ A2.ro q1 wf1.le (by show st1.rules.length≤_;omega) (by show st1.T.length≤_;omega))
              | (go_at_call 18;refine hN.mono ?_;rintro e w3 ⟨rfl,n3,rfl⟩))
            go_ret3
            exact ⟨((hE1.trans hE2).drewN _).below,_,HSR.out,HB.out.2.1,HB.out.2.2,.inl ⟨HB.out.1,rfl⟩⟩
        · have hb1:¬ 50 < st1.rules.length:=by omega
          have hb2:¬ 100 < G.sizeOf st1.T st1.rules:=by omega
          go_wp2_with (first
            | (go_at_call 80
               refine (skip_any wr _ s S1 st1 hR1 hs i1 e1).mono ?_
               rintro e w1 ⟨rfl,hR2,hE2⟩
               obtain ⟨c0,c1,c2,c3,c4,fr⟩:=hR2.reads
               have c2':w1.cell? ⟨w.heap.size,2,none⟩=some (.int .i64 0):=c2.trans (by show some (Value.int .i64 ((st1.err:Nat):Int))=_;rw [e1];rfl)
               clear c2
               obtain ⟨vN,vM,vR,V,A,hf,hl⟩:=id hR2
               obtain ⟨ra,rc,hre⟩:=own_len A.oR
               subst hre
               have c7:=cell_blk A.blk 7 (.slice ra st1.rules.length rc) rfl)
            | (go_at_call 81
               refine (more_any w1 _ s S1 _ hR2 hs (by show G.skip s st1.i≤_;omega)).mono ?_
               rw [hmo]
               rintro e w2 ⟨rfl,n2,rfl⟩
               obtain ⟨vN2,vM2,vR2,V2,A2,_,_⟩:=hR2.drewN n2
               have hN:=places_any _ _ _ _ _ _ _ _ A2.ro q1 wf1.le (by show st1.rules.length≤_;omega) (by show st1.T.length≤_;omega))
            | (go_at_call 18;refine hN.mono ?_;rintro e w3 ⟨rfl,n3,rfl⟩)
            | (go_at_call 83;refine (hA _ S1 _ (hR2.drewN (n2 + n3)) (fun k hk=>(hE1.new k hk).elim False.elim id) wf1 (by show st1.T.length≤_;omega) q1 (by show st1.rules.length≤_;omega) (by show G.sizeOf st1.T st1.rules≤_;omega)).mono ?_;rintro e w4 ⟨rfl,hPw,S4,hE4⟩))
          go_ret3
          exact ⟨(((hE1.trans hE2).drewN _).trans hE4).below,_,HSR.out,wf1,q1,.inr ⟨⟨by omega,by omega⟩,hPw,rfl⟩⟩
    · have hmo:moreB s st1=false:=by simp [moreB,e1]
      have hnb:((st1.err:Int) != 0)=true:=by simp;omega
      go_wp2_with (first
        | (go_at_call 80;refine (skip_no wr _ s S1 st1 hR1 hs i1 e1).mono ?_;rintro e w1 ⟨rfl,hR2,hE2⟩;obtain ⟨c0,c1,c2,c3,c4,fr⟩:=hR2.reads)
        | (go_at_call 81;refine (more_any w1 _ s S1 st1 hR2 hs i1).mono ?_;rw [hmo];rintro e w2 ⟨rfl,n2,rfl⟩))
      go_quiet (fail)
      go_wp2
      go_ret3
      exact ⟨(((hE1.trans hE2).drewN _).drewN _).below,_,k1,e1,rfl⟩
end Rf
end Go.Proofs.YtpgcidpghmoibaaGreatDoor
