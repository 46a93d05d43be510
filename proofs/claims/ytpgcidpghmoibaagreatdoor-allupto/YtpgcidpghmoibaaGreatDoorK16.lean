/-
  THE REFERENCE's READER
  THE REFERENCE's READER
  THE REFERENCE's READER
  THE REFERENCE's READER
-/
import Derived.Test.YtpgcidpghmoibaaGreatDoorK04
import Derived.Test.YtpgcidpghmoibaaGreatDoorK15
namespace Go.Proofs.YtpgcidpghmoibaaGreatDoor
namespace Rf
open Go.RowKit
open G (PNode)
theorem ret_str {a b:ByteArray} (h:a=b):Ending.returned (.string a)=.returned (.string b):=by rw [h]
def wordSt (s:ByteArray) (st:St):St:=if G.wend s (st.i + 1)=st.i + 1 then { st with i:=st.i + 1,err:=2,place:=st.i } else { st with i:=G.wend s (st.i + 1) }
set_option maxRecDepth 100000 in
set_option maxHeartbeats 1000000 in
theorem word_any (w:World) (b:Nat) (s:ByteArray) (S:Nat→Prop) (st:St) (hR:Rd w b s S st) (hs:s.size≤2000) (hi:st.i < s.size) (h0:st.err=0) :
    Calls Tryz.prog 108 #[.pointer (some ⟨b,0,none⟩)] w fun e w'=>e=.returned (.string (G.name s st.i))∧Evo w S w' S ∧
      Rd w' b s S (wordSt s st):=by
  obtain ⟨hSb,_⟩:=hR.inS
  obtain ⟨c0,c1,c2,c3,c4,fr⟩:=hR.reads
  go_enter Tryz.func108,Tryz.ntmps108
  go_wp2
  go_loopw [] (fun wr=>∃ m,st.i + 1≤m∧m≤s.size∧Rd wr b s S { st with i:=m }∧Evo w S wr S∧G.wend s m=G.wend s (st.i + 1)) (fun wr=>s.size - posOf b wr)
  case atStart=>exact ⟨st.i + 1,Nat.le_refl _,hi,hR.inc,(Evo.refl w S).set hSb (.inl hSb) _ _,rfl⟩
  case round =>
    clear c0 c1 c2 c3 c4 fr
    obtain ⟨m,hm1,hm2,hRm,hEm,hw⟩:=hrel
    obtain ⟨c0,c1,c2,c3,c4,fr⟩:=hRm.reads
    have HPm:Hid (posOf b wr=m):=hRm.pos
    have HW:Hid (G.wend s m=G.wend s (st.i + 1)):=hw
    clear hw
    by_cases hlow:G.low s m=true
    · obtain ⟨hl,h97,h122⟩:=(G.low_iff s m).1 hlow
      have hl':(m:Int) < (s.size:Int):=by omega
      have hg1:(97:Int)≤((s[m]'hl).toNat:Int):=by rw [U.at_get];omega
      have hg2:((s[m]'hl).toNat:Int)≤122:=by rw [U.at_get];omega
      go_wp2
      go_quiet (fail)
      go_wp2
      go_roundw
      case rel=>exact ⟨m + 1,by omega,by omega,(hRm.drewN _).inc,(hEm.drewN _).set hSb (.inl hSb) _ _,by rw [← G.wend_step hlow];exact HW.out⟩
      case measure =>
        rw [HPm.out,(hRm.drewN _).inc.pos]
        show s.size - (m + 1) < _
        omega
    · have he:G.wend s m=m:=G.wend_end hlow
      have hwe:G.wend s (st.i + 1)=m:=by rw [← HW.out];exact he
      have HN:Hid (G.name s st.i=s.extract (st.i + 1) m):=by show G.name s st.i=_;rw [G.name,hwe]
      have HWE:Hid (G.wend s (st.i + 1)=m):=hwe
      have g1:(0:Int)≤(st.i:Int) + 1:=by omega
      have g2:(st.i:Int) + 1≤(m:Int):=by omega
      have g3:(m:Int)≤(s.size:Int):=by omega
      have hcase:(¬ m < s.size) ∨ (∃ hl:m < s.size,((m:Int) < (s.size:Int))∧decide ((97:Int)≤((s[m]'hl).toNat:Int))=false) ∨ (∃ hl:m < s.size,((m:Int) < (s.size:Int))∧(97:Int)≤((s[m]'hl).toNat:Int)∧decide (((s[m]'hl).toNat:Int)≤122)=false):=by
        by_cases hl:m < s.size
        · right
          have hlo:=mt (G.low_iff s m).2 hlow
          by_cases h97:97≤U.at' s m
          · exact .inr ⟨hl,by omega,by rw [U.at_get];omega,by rw [U.at_get];simp;omega⟩
          · exact .inl ⟨hl,by omega,by rw [U.at_get];simp;omega⟩
        · exact .inl hl
      have hme:(m=st.i + 1∧((m:Int) == (st.i:Int) + 1)=true) ∨ (m ≠ st.i + 1∧((m:Int) == (st.i:Int) + 1)=false):=by
        by_cases h:m=st.i + 1
        · exact .inl ⟨h,by simp;omega⟩
        · exact .inr ⟨h,by simp;omega⟩
      clear hlow he hwe HW
      rcases hcase with hl' | ⟨hl,hl',hg1⟩ | ⟨hl,hl',hg1,hg2⟩
      all_goals
        go_wp2
        go_quiet (fail)
        rcases hme with ⟨hm,hmB⟩ | ⟨hm,hmB⟩
        · have hst:failed { st with i:=m } 2 st.i={ st with i:=st.i + 1,err:=2,place:=st.i }:=by rw [failed,if_pos h0,hm]
          have HT:Hid _:=hst
          clear hst
          go_wp2_with (go_at_call 110;refine (fail_any _ b s S _ 2 st.i (hRm.drewN _)).mono ?_;rintro e w' ⟨rfl,hRf,hEf⟩)
          clear c0 c1 c2 c3 c4 fr
          obtain ⟨c0,c1,c2,c3,c4,fr⟩:=hRf.reads
          have c1':w'.cell? ⟨b,1,none⟩=some (.int .i64 (m:Int)):=by rw [c1,HT.out];show some (Value.int .i64 ((st.i + 1:Nat):Int))=_;rw [hm]
          clear c1 c2 c3 c4
          refine wp_region_quiet_lit (by kernel_rfl) (by kernel_rfl) ?_
          repeat (first | go_big_quiet_step (fail) | quiet_step (fail))
          refine wpQuiet_nil ?_
          intro _ hw'
          obtain ⟨nq2,hw''⟩:=hw'
          subst hw''
          go_wp2
          go_ret
          rw [HT.out] at hRf
          refine ⟨ret_str ?_,((hEm.drewN _).trans hEf).drewN _,?_⟩
          · rw [HN.out,hm]
            simp
          · rw [wordSt,HWE.out,if_pos hm]
            exact hRf.drewN _
        · go_wp2
          refine wp_region_quiet_lit (by kernel_rfl) (by kernel_rfl) ?_
          repeat (first | go_big_quiet_step (fail) | quiet_step (fail))
          refine wpQuiet_nil ?_
          intro _ hw'
          obtain ⟨nq2,hw''⟩:=hw'
          subst hw''
          go_wp2
          go_ret
          refine ⟨ret_str HN.out.symm,(hEm.drewN _).drewN _,?_⟩
          rw [wordSt,HWE.out,if_neg hm]
          exact (hRm.drewN _).drewN _
end Rf
end Go.Proofs.YtpgcidpghmoibaaGreatDoor

namespace Go.Proofs.YtpgcidpghmoibaaGreatDoor
namespace Rf
open Go.RowKit
open G (PNode)
theorem own_cell {w:World} {b e size n g cap:Nat} {xs:List Value} {u:Value} (h:w.ownsRow b e size (.slice (some ⟨g,0,none⟩) n cap) n xs) (j:Nat) (hu:xs[j]?=some u):w.cell? ⟨g,j,none⟩=some u:=by
  have:=h.cells (g:=g) rfl j u hu
  by_cases e:j=0
  · subst e;exact this
  · simpa [Addr.add,e] using this
theorem bytes_ne {a c:ByteArray} (h:¬ a=c):(a.toList == c.toList)=false:=by
  rw [ByteArray.toList_eq,ByteArray.toList_eq]
  simp only [beq_eq_false_iff_ne]
  intro e
  apply h
  obtain ⟨⟨l⟩⟩:=a
  obtain ⟨⟨m⟩⟩:=c
  have e':l=m:=e
  rw [e']
def findV (E:List (ByteArray × Nat)) (n:ByteArray):Int:=match G.lookup E n with | some x=>(x:Int) | none=>-1
set_option maxRecDepth 100000 in
set_option maxHeartbeats 1000000 in
theorem find_any (w:World) (b:Nat) (s:ByteArray) (S:Nat→Prop) (st:St) (n:ByteArray) (hR:Rd w b s S st) (hE:st.env.length≤100000) :
    Calls Tryz.prog 109 #[.pointer (some ⟨b,0,none⟩),.string n] w fun e w'=>e=.returned (.int .i64 (findV st.env n))∧w'=w:=by
  obtain ⟨vN,vM,vR,V,A,_,_⟩:=hR
  obtain ⟨ma,mc,hme⟩:=own_len A.oM
  subst hme
  have c6:=cell_blk A.blk 6 (.slice ma st.env.length mc) rfl
  have oM:=A.oM
  go_enter Tryz.func109,Tryz.ntmps109
  go_wp2
  go_loop [5] (fun i=>∃ k:Nat,k≤st.env.length∧i=.int .i64 k∧∀ m x,m < k→st.env[m]?=some x→x.1 ≠ n) (fun i=>st.env.length - (intOf i).toNat)
  case atStart=>exact ⟨0,by omega,rfl,by omega⟩
  case round =>
    obtain ⟨k,hk,rfl,hall⟩:=hrel
    have HA:Hid _:=hall
    clear hall
    by_cases hlt:k < st.env.length
    · obtain ⟨g,cap,hv,_,_⟩:=oM.form (by omega)
      simp only [Value.slice.injEq] at hv
      obtain ⟨rfl,_,rfl⟩:=hv
      have hx:st.env[k]?=some (st.env[k]'hlt):=List.getElem?_eq_getElem hlt
      generalize st.env[k]'hlt=x at hx
      have c1':w.cell? ⟨g,k * 2,none⟩=some (.string x.1):=own_cell oM (k * 2 + 0) ((ecells_get hx 0 (by omega)).trans rfl)
      have c2':w.cell? ⟨g,k * 2 + 1,none⟩=some (.int .i64 (x.2:Int)):=own_cell oM (k * 2 + 1) ((ecells_get hx 1 (by omega)).trans rfl)
      by_cases hn:x.1=n
      · have HF:Hid (findV st.env n=(x.2:Int)):=by
          show findV st.env n=_
          have e:G.lookup st.env n=some x.2:=by
            unfold G.lookup
            have hfi:st.env.find? (fun y=>decide (y.1=n))=some x:=by
              rw [List.find?_eq_some_iff_getElem]
              refine ⟨by simpa using hn,k,hlt,(List.getElem?_eq_some_iff.1 hx).2,?_⟩
              intro m hm
              have:=HA.out m _ hm (List.getElem?_eq_getElem (by omega))
              simpa using this
            rw [hfi]
            rfl
          unfold findV
          rw [e]
        go_wp2
        go_ret
        exact ⟨ret_int HF.out.symm,rfl⟩
      · have hnB:=bytes_ne hn
        go_wp2
        go_round
        case rel =>
          refine ⟨k + 1,by omega,by go_num,?_⟩
          intro m y hm hy
          by_cases e:m=k
          · subst e
            rw [hx] at hy
            simp only [Option.some.injEq] at hy
            subst hy
            exact hn
          · exact HA.out m y (by omega) hy
        case measure=>simp [intOf];omega
    · have HF:Hid (findV st.env n=-1):=by
        show findV st.env n=_
        have e:G.lookup st.env n=none:=by
          unfold G.lookup
          have hfi:st.env.find? (fun y=>decide (y.1=n))=none:=by
            rw [List.find?_eq_none]
            intro y hy
            obtain ⟨m,hm⟩:=List.getElem?_of_mem hy
            have hml:m < st.env.length:=(List.getElem?_eq_some_iff.1 hm).1
            simpa using HA.out m y (by omega) hm
          rw [hfi]
          rfl
        unfold findV
        rw [e]
      go_wp2
      go_ret
      exact ⟨ret_int HF.out.symm,rfl⟩
set_option maxRecDepth 100000 in
set_option maxHeartbeats 1000000 in
theorem want_no (w:World) (b:Nat) (s:ByteArray) (S:Nat→Prop) (st:St) (c:Nat) (hR:Rd w b s S st) (hs:s.size≤2000) (hi:st.i≤100000) (h0:st.err ≠ 0) :
    Calls Tryz.prog 112 #[.pointer (some ⟨b,0,none⟩),.int .i64 (c:Int)] w fun e w'=>e=.returned (.tuple #[])∧Evo w S w' S∧Rd w' b s S { st with i:=st.i + 1 }:=by
  obtain ⟨hSb,_⟩:=hR.inS
  have hne:((-1:Int) != (c:Int))=true:=by simp
  have hfa:failed st 2 st.i=st:=by rw [failed,if_neg h0]
  have HF:Hid _:=hfa
  clear hfa
  go_enter Tryz.func112,Tryz.ntmps112
  go_wp2_with (first
    | (go_at_call 80;refine (skip_no _ b s S st hR hs hi h0).mono ?_;rintro e w1 ⟨rfl,hR1,hE1⟩;obtain ⟨c0,c1,c2,c3,c4,fr⟩:=hR1.reads)
    | (go_at_call 107;refine (see_any _ b s S st hR1 hs hi).mono ?_;rw [seeV_no h0];rintro e w2 ⟨rfl,n2,rfl⟩)
    | (go_at_call 110;refine (fail_any _ b s S st 2 st.i (hR1.drewN _)).mono ?_;rw [HF.out];rintro e w3 ⟨rfl,hR3,hE3⟩;clear c0 c1 c2 c3 c4 fr;obtain ⟨c0,c1,c2,c3,c4,fr⟩:=hR3.reads))
  go_end0
  exact ⟨rfl,((hE1.drewN _).trans hE3).set hSb (.inl hSb) _ _,hR3.inc⟩
def wantSt (s:ByteArray) (st:St) (c:Nat):St:=if G.pk s (G.skip s st.i)=(c:Int) then { st with i:=G.skip s st.i + 1 } else { st with i:=G.skip s st.i + 1,err:=2,place:=G.skip s st.i }
set_option maxRecDepth 100000 in
set_option maxHeartbeats 1000000 in
theorem want_any (w:World) (b:Nat) (s:ByteArray) (S:Nat→Prop) (st:St) (c:Nat) (hR:Rd w b s S st) (hs:s.size≤2000) (hi:st.i≤s.size) (h0:st.err=0) :
    Calls Tryz.prog 112 #[.pointer (some ⟨b,0,none⟩),.int .i64 (c:Int)] w fun e w'=>e=.returned (.tuple #[])∧Evo w S w' S∧Rd w' b s S (wantSt s st c):=by
  obtain ⟨hSb,_⟩:=hR.inS
  have hsk:=G.skip_le s st.i hi
  have hsee:seeV s { st with i:=G.skip s st.i }=G.pk s (G.skip s st.i):=seeV_ok (st:={ st with i:=G.skip s st.i }) h0
  by_cases hc:G.pk s (G.skip s st.i)=(c:Int)
  · have HW:Hid (wantSt s st c={ st with i:=G.skip s st.i + 1 }):=by show wantSt s st c=_;rw [wantSt,if_pos hc]
    rw [hc] at hsee
    clear hc
    go_enter Tryz.func112,Tryz.ntmps112
    go_wp2_with (first
      | (go_at_call 80;refine (skip_any _ b s S st hR hs hi h0).mono ?_;rintro e w1 ⟨rfl,hR1,hE1⟩;obtain ⟨c0,c1,c2,c3,c4,fr⟩:=hR1.reads)
      | (go_at_call 107;refine (see_any _ b s S _ hR1 hs (by show G.skip s st.i≤_;omega)).mono ?_;rw [hsee];rintro e w2 ⟨rfl,n2,rfl⟩))
    go_end0
    refine ⟨rfl,(hE1.drewN _).set hSb (.inl hSb) _ _,?_⟩
    rw [HW.out]
    exact (hR1.drewN _).inc
  · have HW:Hid (wantSt s st c={ st with i:=G.skip s st.i + 1,err:=2,place:=G.skip s st.i }):=by show wantSt s st c=_;rw [wantSt,if_neg hc]
    have hne:((G.pk s (G.skip s st.i)) != (c:Int))=true:=by simpa using hc
    have hfa:failed { st with i:=G.skip s st.i } 2 (G.skip s st.i)={ st with i:=G.skip s st.i,err:=2,place:=G.skip s st.i }:=by rw [failed,if_pos h0]
    have HF:Hid _:=hfa
    clear hfa hc
    go_enter Tryz.func112,Tryz.ntmps112
    go_wp2_with (first
      | (go_at_call 80;refine (skip_any _ b s S st hR hs hi h0).mono ?_;rintro e w1 ⟨rfl,hR1,hE1⟩;obtain ⟨c0,c1,c2,c3,c4,fr⟩:=hR1.reads)
      | (go_at_call 107;refine (see_any _ b s S _ hR1 hs (by show G.skip s st.i≤_;omega)).mono ?_;rw [hsee];rintro e w2 ⟨rfl,n2,rfl⟩)
      | (go_at_call 110;refine (fail_any _ b s S _ 2 (G.skip s st.i) (hR1.drewN _)).mono ?_;rw [HF.out];rintro e w3 ⟨rfl,hR3,hE3⟩;clear c0 c1 c2 c3 c4 fr;obtain ⟨c0,c1,c2,c3,c4,fr⟩:=hR3.reads))
    go_end0
    refine ⟨rfl,((hE1.drewN _).trans hE3).set hSb (.inl hSb) _ _,?_⟩
    rw [HW.out]
    exact hR3.inc
end Rf
end Go.Proofs.YtpgcidpghmoibaaGreatDoor

namespace Go.Proofs.YtpgcidpghmoibaaGreatDoor
namespace Rf
open Go.RowKit
open G (PNode)
def ExprAt (b:Nat) (s:ByteArray) (d:Nat):Prop:=
  ∀ (w:World) (S:Nat→Prop) (st:St),Rd w b s S st→Pre s st→st.env.length≤100000→st.deep=d →
    Calls Tryz.prog 111 #[.pointer (some ⟨b,0,none⟩)] w fun e w'=>∃ v r,e=.returned (.int .i64 v)∧G.R s st.env (.expr []) st.deep st.i st.T r∧ReadPost w b s S st r (10 * (42 - d)) v w'
theorem ReadPost.after {w w1 w':World} {b:Nat} {s:ByteArray} {S S1:Nat→Prop} {st st1:St} {r:G.Res} {B B':Nat} {v:Int} (h:ReadPost w1 b s S1 st1 r B v w') (he:Evo w S w1 S1) (hB:B≤B')
    (h1:st1.err=st.err) (h2:st1.place=st.place) (h3:st1.deep=st.deep) (h4:st1.env=st.env) (h5:st1.rules=st.rules) (h6:st1.T=st.T):ReadPost w b s S st r B' v w':=by
  obtain ⟨S',st',a1,a2,a3,a4,a5,a6⟩:=h
  refine ⟨S',st',a1,he.trans a2,a3.trans h3,a4.trans h4,a5.trans h5,?_⟩
  cases r with
  | ok n j T' =>
    obtain ⟨b1,b2⟩:=a6
    refine ⟨b1,?_⟩
    rw [b2]
    exact st_eq h1 h2 h3 h4 h5 _ _
  | err c p =>
    obtain ⟨b1,b2,b3,b4,b5,b6,b7⟩:=a6
    exact ⟨b1,b2,b3,by omega,by omega,b6,by rw [← h6];exact b7⟩
set_option maxRecDepth 100000 in
set_option maxHeartbeats 2000000 in
theorem atom_deep (w:World) (b:Nat) (s:ByteArray) (S:Nat→Prop) (st:St) (d:Nat) (hR:Rd w b s S st) (hs:s.size≤2000) (hP:Pre s st) (_hev:st.env.length≤100000) (hd:st.deep=d) (_hd40:d≤40) (hp:G.pk s (G.skip s st.i)=40) (h40:d=40) :
    Calls Tryz.prog 146 #[.pointer (some ⟨b,0,none⟩)] w fun e w'=>∃ v r,e=.returned (.int .i64 v)∧G.R s st.env .atom st.deep (G.skip s st.i) st.T r∧ReadPost w b s S st r (10 * (41 - d) + 5) v w':=by
  obtain ⟨he0,hile,hTl,hwf,henv⟩:=hP
  obtain ⟨hSb,_⟩:=hR.inS
  have hkl:=G.skip_le s st.i hile
  have hkg:=G.skip_ge s st.i
  have hsee:seeV s { st with i:=G.skip s st.i }=G.pk s (G.skip s st.i):=seeV_ok (st:={ st with i:=G.skip s st.i }) he0
  obtain ⟨k,hk⟩:∃ k,k=G.skip s st.i:=⟨_,rfl⟩
  rw [← hk] at hp hsee hkl hkg ⊢
  have hlt:=G.lt_of_pk (s:=s) (i:=k) (by omega)
  rw [hp] at hsee
  have HK:Hid (k=G.skip s st.i):=hk
  have HD:Hid (st.deep=d):=hd
  clear hk hd
  have h40':st.deep=40:=by rw [HD.out];exact h40
  have hR':G.R s st.env .atom st.deep k st.T (.err 5 k):=G.R.deep hp h40'
  have HG:Hid _:=hR'
  clear hR'
  have hfa:failed { st with i:=k } 5 k={ st with i:=k,err:=5,place:=k }:=by rw [failed,if_pos he0]
  have HF:Hid _:=hfa
  clear hfa
  go_enter Tryz.func146,Tryz.ntmps146
  go_wp2_with (first
    | (go_at_call 80;refine (skip_any w b s S st hR hs hile he0).mono ?_;rw [← HK.out];rintro e w1 ⟨rfl,hR1,hE1⟩;obtain ⟨c0,c1,c2,c3,c4,fr⟩:=hR1.reads)
    | (go_at_call 107;refine (see_any w1 b s S _ hR1 hs (by show k≤_;omega)).mono ?_;rw [hsee];rintro e w2 ⟨rfl,n2,rfl⟩;have c4':w1.cell? ⟨b,4,none⟩=some (.int .i64 40):=by rw [c4];show some (Value.int .i64 ((st.deep:Nat):Int))=_;rw [h40'];rfl)
    | (go_at_call 110;refine (fail_any _ b s S _ 5 k (hR1.drewN _)).mono ?_;rw [HF.out];rintro e w3 ⟨rfl,hR3,hE3⟩))
  go_ret
  exact ⟨_,_,rfl,HG.out,S,_,hR3,(hE1.drewN _).trans hE3,rfl,rfl,rfl,rfl,rfl,by omega,by show k≤_;omega,by show st.T.length≤_;omega,hwf.le,Nat.le_refl _⟩
set_option maxRecDepth 100000 in
set_option maxHeartbeats 2000000 in
theorem atom_dot (w:World) (b:Nat) (s:ByteArray) (S:Nat→Prop) (st:St) (d:Nat) (hR:Rd w b s S st) (hs:s.size≤2000) (hP:Pre s st) (_hev:st.env.length≤100000) (hd:st.deep=d) (_hd40:d≤40) (hp:G.pk s (G.skip s st.i)=46) :
    Calls Tryz.prog 146 #[.pointer (some ⟨b,0,none⟩)] w fun e w'=>∃ v r,e=.returned (.int .i64 v)∧G.R s st.env .atom st.deep (G.skip s st.i) st.T r∧ReadPost w b s S st r (10 * (41 - d) + 5) v w':=by
  obtain ⟨he0,hile,hTl,hwf,henv⟩:=hP
  obtain ⟨hSb,_⟩:=hR.inS
  have hkl:=G.skip_le s st.i hile
  have hkg:=G.skip_ge s st.i
  have hsee:seeV s { st with i:=G.skip s st.i }=G.pk s (G.skip s st.i):=seeV_ok (st:={ st with i:=G.skip s st.i }) he0
  obtain ⟨k,hk⟩:∃ k,k=G.skip s st.i:=⟨_,rfl⟩
  rw [← hk] at hp hsee hkl hkg ⊢
  have hlt:=G.lt_of_pk (s:=s) (i:=k) (by omega)
  rw [hp] at hsee
  have HK:Hid (k=G.skip s st.i):=hk
  have HD:Hid (st.deep=d):=hd
  clear hk hd
  have HG:Hid (G.R s st.env .atom st.deep k st.T _):=G.R.dot hp
  go_enter Tryz.func146,Tryz.ntmps146
  go_wp2_with (first
    | (go_at_call 135;refine hN.mono ?_;rintro e w5 ⟨rfl,S5,hR5,hE5⟩)
    | (go_at_call 80;refine (skip_any w b s S st hR hs hile he0).mono ?_;rw [← HK.out];rintro e w1 ⟨rfl,hR1,hE1⟩;obtain ⟨c0,c1,c2,c3,c4,fr⟩:=hR1.reads)
    | (go_at_call 107;refine (see_any w1 b s S _ hR1 hs (by show k≤_;omega)).mono ?_;rw [hsee];rintro e w2 ⟨rfl,n2,rfl⟩;have E34:=(hE1.drewN n2).set hSb (.inl hSb) 1 (.int .i64 ((k:Int) + 1));have hN:=nodeS_any _ b s S _ true w.heap.size (.slice none 0 0) [] (hR1.drewN n2).inc (World.ownsRow_nil _ _ _ _) (fun j e=>none_own j _ e) (by show st.T.length≤_;omega) hwf.le w S E34 (by omega)))
  go_ret
  exact ⟨_,_,rfl,HG.out,S5,_,hR5,hE5,rfl,rfl,rfl,rfl,rfl⟩
set_option maxRecDepth 100000 in
set_option maxHeartbeats 2000000 in
theorem atom_quote (w:World) (b:Nat) (s:ByteArray) (S:Nat→Prop) (st:St) (d:Nat) (hR:Rd w b s S st) (hs:s.size≤2000) (hP:Pre s st) (_hev:st.env.length≤100000) (hd:st.deep=d) (_hd40:d≤40) (hp:G.pk s (G.skip s st.i)=39) :
    Calls Tryz.prog 146 #[.pointer (some ⟨b,0,none⟩)] w fun e w'=>∃ v r,e=.returned (.int .i64 v)∧G.R s st.env .atom st.deep (G.skip s st.i) st.T r∧ReadPost w b s S st r (10 * (41 - d) + 5) v w':=by
  obtain ⟨he0,hile,hTl,hwf,henv⟩:=hP
  obtain ⟨hSb,_⟩:=hR.inS
  have hkl:=G.skip_le s st.i hile
  have hkg:=G.skip_ge s st.i
  have hsee:seeV s { st with i:=G.skip s st.i }=G.pk s (G.skip s st.i):=seeV_ok (st:={ st with i:=G.skip s st.i }) he0
  obtain ⟨k,hk⟩:∃ k,k=G.skip s st.i:=⟨_,rfl⟩
  rw [← hk] at hp hsee hkl hkg ⊢
  have hlt:=G.lt_of_pk (s:=s) (i:=k) (by omega)
  rw [hp] at hsee
  have HK:Hid (k=G.skip s st.i):=hk
  have HD:Hid (st.deep=d):=hd
  clear hk hd
  go_enter Tryz.func146,Tryz.ntmps146
  go_wp2_with (first
    | (go_at_call 150;refine hN.mono ?_;rintro e w5 ⟨v,r,rfl,hr,hpo⟩;have HQ:Hid _:=And.intro hr (hpo.after (B':=10 * (41 - d) + 5) E34 (by omega) rfl rfl rfl rfl rfl rfl);clear hr hpo)
    | (go_at_call 80;refine (skip_any w b s S st hR hs hile he0).mono ?_;rw [← HK.out];rintro e w1 ⟨rfl,hR1,hE1⟩;obtain ⟨c0,c1,c2,c3,c4,fr⟩:=hR1.reads)
    | (go_at_call 107;refine (see_any w1 b s S _ hR1 hs (by show k≤_;omega)).mono ?_;rw [hsee];rintro e w2 ⟨rfl,n2,rfl⟩;have E34:=(hE1.drewN n2).set hSb (.inl hSb) 1 (.int .i64 ((k:Int) + 1));have hP1:Pre s ({ st with i:=k + 1 }:St):=⟨he0,by show k + 1≤_;omega,by show st.T.length≤4 * (k + 1);omega,hwf,henv⟩;have hN:=quote_any _ b s S _ (hR1.drewN n2).inc hs hP1))
  go_ret
  exact ⟨_,_,rfl,G.R.quote hp HQ.out.1,HQ.out.2⟩
set_option maxRecDepth 100000 in
set_option maxHeartbeats 2000000 in
theorem atom_set (w:World) (b:Nat) (s:ByteArray) (S:Nat→Prop) (st:St) (d:Nat) (hR:Rd w b s S st) (hs:s.size≤2000) (hP:Pre s st) (_hev:st.env.length≤100000) (hd:st.deep=d) (_hd40:d≤40) (hp:G.pk s (G.skip s st.i)=91) :
    Calls Tryz.prog 146 #[.pointer (some ⟨b,0,none⟩)] w fun e w'=>∃ v r,e=.returned (.int .i64 v)∧G.R s st.env .atom st.deep (G.skip s st.i) st.T r∧ReadPost w b s S st r (10 * (41 - d) + 5) v w':=by
  obtain ⟨he0,hile,hTl,hwf,henv⟩:=hP
  obtain ⟨hSb,_⟩:=hR.inS
  have hkl:=G.skip_le s st.i hile
  have hkg:=G.skip_ge s st.i
  have hsee:seeV s { st with i:=G.skip s st.i }=G.pk s (G.skip s st.i):=seeV_ok (st:={ st with i:=G.skip s st.i }) he0
  obtain ⟨k,hk⟩:∃ k,k=G.skip s st.i:=⟨_,rfl⟩
  rw [← hk] at hp hsee hkl hkg ⊢
  have hlt:=G.lt_of_pk (s:=s) (i:=k) (by omega)
  rw [hp] at hsee
  have HK:Hid (k=G.skip s st.i):=hk
  have HD:Hid (st.deep=d):=hd
  clear hk hd
  have HSR:Hid (∀ r,SetR s { st with i:=k + 1 } r→G.R s st.env .atom st.deep k st.T r):=by
    intro r hr
    rcases hr with ⟨h1,h2⟩ | ⟨h1,h2⟩
    · exact G.R.setNot hp h1 h2
    · exact G.R.set hp h1 h2
  go_enter Tryz.func146,Tryz.ntmps146
  go_wp2_with (first
    | (go_at_call 151;refine hN.mono ?_;rintro e w5 ⟨v,r,rfl,hr,hpo⟩;have HQ:Hid _:=And.intro (HSR.out r hr) (hpo.after (B':=10 * (41 - d) + 5) E34 (by omega) rfl rfl rfl rfl rfl rfl);clear hr hpo)
    | (go_at_call 80;refine (skip_any w b s S st hR hs hile he0).mono ?_;rw [← HK.out];rintro e w1 ⟨rfl,hR1,hE1⟩;obtain ⟨c0,c1,c2,c3,c4,fr⟩:=hR1.reads)
    | (go_at_call 107;refine (see_any w1 b s S _ hR1 hs (by show k≤_;omega)).mono ?_;rw [hsee];rintro e w2 ⟨rfl,n2,rfl⟩;have E34:=(hE1.drewN n2).set hSb (.inl hSb) 1 (.int .i64 ((k:Int) + 1));have hP1:Pre s ({ st with i:=k + 1 }:St):=⟨he0,by show k + 1≤_;omega,by show st.T.length≤4 * (k + 1);omega,hwf,henv⟩;have hN:=set_any _ b s S _ (hR1.drewN n2).inc hs hP1))
  go_ret
  exact ⟨_,_,rfl,HQ.out.1,HQ.out.2⟩
set_option maxRecDepth 100000 in
set_option maxHeartbeats 2000000 in
theorem atom_name (w:World) (b:Nat) (s:ByteArray) (S:Nat→Prop) (st:St) (d:Nat) (hR:Rd w b s S st) (hs:s.size≤2000) (hP:Pre s st) (_hev:st.env.length≤100000) (hd:st.deep=d) (_hd40:d≤40) (hp:G.pk s (G.skip s st.i)=36) :
    Calls Tryz.prog 146 #[.pointer (some ⟨b,0,none⟩)] w fun e w'=>∃ v r,e=.returned (.int .i64 v)∧G.R s st.env .atom st.deep (G.skip s st.i) st.T r∧ReadPost w b s S st r (10 * (41 - d) + 5) v w':=by
  obtain ⟨he0,hile,hTl,hwf,henv⟩:=hP
  obtain ⟨hSb,_⟩:=hR.inS
  have hkl:=G.skip_le s st.i hile
  have hkg:=G.skip_ge s st.i
  have hsee:seeV s { st with i:=G.skip s st.i }=G.pk s (G.skip s st.i):=seeV_ok (st:={ st with i:=G.skip s st.i }) he0
  obtain ⟨k,hk⟩:∃ k,k=G.skip s st.i:=⟨_,rfl⟩
  rw [← hk] at hp hsee hkl hkg ⊢
  have hlt:=G.lt_of_pk (s:=s) (i:=k) (by omega)
  rw [hp] at hsee
  have HK:Hid (k=G.skip s st.i):=hk
  have HD:Hid (st.deep=d):=hd
  clear hk hd
  have hwe:=G.wend_ge s (k + 1)
  have hwl:=G.wend_le s (k + 1) (by omega)
  by_cases h1:G.wend s (k + 1)=k + 1
  · have HG:Hid (G.R s st.env .atom st.deep k st.T _):=G.R.nameForm hp h1
    have hws:wordSt s { st with i:=k }={ st with i:=k + 1,err:=2,place:=k }:=by rw [wordSt,if_pos h1]
    have HW:Hid _:=hws
    clear hws
    go_enter Tryz.func146,Tryz.ntmps146
    go_wp2_with (first
      | (go_at_call 108;refine (word_any (w1.drewN n2) b s S { st with i:=k } (hR1.drewN n2) hs hlt he0).mono ?_;rw [HW.out];rintro e w3 ⟨rfl,hE3,hR3⟩;clear c0 c1 c2 c3 c4 fr;obtain ⟨c0,c1,c2,c3,c4,fr⟩:=hR3.reads)
      | (go_at_call 109;refine (find_any w3 b s S _ _ hR3 _hev).mono ?_;rintro e w4 ⟨rfl,rfl⟩)
      | (go_at_call 80;refine (skip_any w b s S st hR hs hile he0).mono ?_;rw [← HK.out];rintro e w1 ⟨rfl,hR1,hE1⟩;obtain ⟨c0,c1,c2,c3,c4,fr⟩:=hR1.reads)
      | (go_at_call 107;refine (see_any w1 b s S _ hR1 hs (by show k≤_;omega)).mono ?_;rw [hsee];rintro e w2 ⟨rfl,n2,rfl⟩))
    go_ret
    exact ⟨_,_,rfl,HG.out,S,_,hR3,(hE1.drewN _).trans hE3,rfl,rfl,rfl,rfl,rfl,by omega,by show k + 1≤_;omega,by show st.T.length≤_;omega,hwf.le,Nat.le_refl _⟩
  · have hws:wordSt s { st with i:=k }={ st with i:=G.wend s (k + 1) }:=by rw [wordSt,if_neg h1]
    have HW:Hid _:=hws
    clear hws
    cases hlo:G.lookup st.env (G.name s k) with
    | none =>
      have HG:Hid (G.R s st.env .atom st.deep k st.T _):=G.R.nameErr hp h1 hlo
      have hfv:findV st.env (G.name s k)=-1:=by unfold findV;rw [hlo]
      have hfa:failed { st with i:=G.wend s (k + 1) } 3 k={ st with i:=G.wend s (k + 1),err:=3,place:=k }:=by rw [failed,if_pos he0]
      have HF:Hid _:=hfa
      clear hfa hlo
      go_enter Tryz.func146,Tryz.ntmps146
      go_wp2_with (first
        | (go_at_call 108;refine (word_any (w1.drewN n2) b s S { st with i:=k } (hR1.drewN n2) hs hlt he0).mono ?_;rw [HW.out];rintro e w3 ⟨rfl,hE3,hR3⟩;clear c0 c1 c2 c3 c4 fr;obtain ⟨c0,c1,c2,c3,c4,fr⟩:=hR3.reads;have c2':w3.cell? ⟨b,2,none⟩=some (.int .i64 0):=by rw [c2];show some (Value.int .i64 ((st.err:Nat):Int))=_;rw [he0];rfl)
        | (go_at_call 109;refine (find_any w3 b s S _ (G.name s k) hR3 _hev).mono ?_;rw [show findV ({ st with i:=G.wend s (k + 1) }:St).env (G.name s k)=-1 from hfv];rintro e w4 ⟨rfl,rfl⟩)
        | (go_at_call 110;refine (fail_any _ b s S _ 3 k hR3).mono ?_;rw [HF.out];rintro e w5 ⟨rfl,hR5,hE5⟩)
        | (go_at_call 80;refine (skip_any w b s S st hR hs hile he0).mono ?_;rw [← HK.out];rintro e w1 ⟨rfl,hR1,hE1⟩;obtain ⟨c0,c1,c2,c3,c4,fr⟩:=hR1.reads)
        | (go_at_call 107;refine (see_any w1 b s S _ hR1 hs (by show k≤_;omega)).mono ?_;rw [hsee];rintro e w2 ⟨rfl,n2,rfl⟩))
      go_ret
      exact ⟨_,_,rfl,HG.out,S,_,hR5,((hE1.drewN _).trans hE3).trans hE5,rfl,rfl,rfl,rfl,rfl,by omega,by show G.wend s (k + 1)≤_;omega,by show st.T.length≤_;omega,hwf.le,Nat.le_refl _⟩
    | some n =>
      have HG:Hid (G.R s st.env .atom st.deep k st.T _):=G.R.name hp h1 hlo
      have hfv:findV st.env (G.name s k)=(n:Int):=by unfold findV;rw [hlo]
      clear hlo
      go_enter Tryz.func146,Tryz.ntmps146
      go_wp2_with (first
        | (go_at_call 108;refine (word_any (w1.drewN n2) b s S { st with i:=k } (hR1.drewN n2) hs hlt he0).mono ?_;rw [HW.out];rintro e w3 ⟨rfl,hE3,hR3⟩;clear c0 c1 c2 c3 c4 fr;obtain ⟨c0,c1,c2,c3,c4,fr⟩:=hR3.reads;have c2':w3.cell? ⟨b,2,none⟩=some (.int .i64 0):=by rw [c2];show some (Value.int .i64 ((st.err:Nat):Int))=_;rw [he0];rfl)
        | (go_at_call 109;refine (find_any w3 b s S _ (G.name s k) hR3 _hev).mono ?_;rw [show findV ({ st with i:=G.wend s (k + 1) }:St).env (G.name s k)=(n:Int) from hfv];rintro e w4 ⟨rfl,rfl⟩)
        | (go_at_call 80;refine (skip_any w b s S st hR hs hile he0).mono ?_;rw [← HK.out];rintro e w1 ⟨rfl,hR1,hE1⟩;obtain ⟨c0,c1,c2,c3,c4,fr⟩:=hR1.reads)
        | (go_at_call 107;refine (see_any w1 b s S _ hR1 hs (by show k≤_;omega)).mono ?_;rw [hsee];rintro e w2 ⟨rfl,n2,rfl⟩))
      go_ret
      exact ⟨_,_,rfl,HG.out,S,_,hR3,(hE1.drewN _).trans hE3,rfl,rfl,rfl,rfl,rfl⟩
set_option maxRecDepth 100000 in
set_option maxHeartbeats 2000000 in
theorem atom_none (w:World) (b:Nat) (s:ByteArray) (S:Nat→Prop) (st:St) (d:Nat) (hR:Rd w b s S st) (hs:s.size≤2000) (hP:Pre s st) (_hev:st.env.length≤100000) (hd:st.deep=d) (_hd40:d≤40) (hp:G.atomic (G.pk s (G.skip s st.i))=false) :
    Calls Tryz.prog 146 #[.pointer (some ⟨b,0,none⟩)] w fun e w'=>e=.returned (.int .i64 (-1))∧Evo w S w' S∧Rd w' b s S { st with i:=G.skip s st.i }:=by
  obtain ⟨he0,hile,hTl,hwf,henv⟩:=hP
  obtain ⟨hSb,_⟩:=hR.inS
  have hkl:=G.skip_le s st.i hile
  have hkg:=G.skip_ge s st.i
  have hsee:seeV s { st with i:=G.skip s st.i }=G.pk s (G.skip s st.i):=seeV_ok (st:={ st with i:=G.skip s st.i }) he0
  obtain ⟨k,hk⟩:∃ k,k=G.skip s st.i:=⟨_,rfl⟩
  rw [← hk] at hp hsee hkl hkg ⊢
  have HK:Hid (k=G.skip s st.i):=hk
  have HD:Hid (st.deep=d):=hd
  clear hk hd
  simp only [G.atomic,decide_eq_false_iff_not] at hp
  generalize G.pk s k=p at hp hsee
  have p1:(p == 40)=false:=by simp;omega
  have p2:(p == 46)=false:=by simp;omega
  have p3:(p == 36)=false:=by simp;omega
  have p4:(p == 39)=false:=by simp;omega
  have p5:(p == 91)=false:=by simp;omega
  clear hp
  go_enter Tryz.func146,Tryz.ntmps146
  go_wp2_with (first
    | (go_at_call 80;refine (skip_any w b s S st hR hs hile he0).mono ?_;rw [← HK.out];rintro e w1 ⟨rfl,hR1,hE1⟩;obtain ⟨c0,c1,c2,c3,c4,fr⟩:=hR1.reads)
    | (go_at_call 107;refine (see_any w1 b s S _ hR1 hs (by show k≤_;omega)).mono ?_;rw [hsee];rintro e w2 ⟨rfl,n2,rfl⟩))
  go_ret
  exact ⟨rfl,hE1.drewN _,hR1.drewN _⟩
end Rf
end Go.Proofs.YtpgcidpghmoibaaGreatDoor

namespace Go.Proofs.YtpgcidpghmoibaaGreatDoor
namespace Rf
open Go.RowKit
open G (PNode)
def wantB (s:ByteArray) (st:St) (c:Nat):St:=if st.err=0 then wantSt s st c else { st with i:=st.i + 1 }
theorem want_both (w:World) (b:Nat) (s:ByteArray) (S:Nat→Prop) (st:St) (c:Nat) (hR:Rd w b s S st) (hs:s.size≤2000) (hi:st.err=0→st.i≤s.size) (hi2:st.i≤100000) :
    Calls Tryz.prog 112 #[.pointer (some ⟨b,0,none⟩),.int .i64 (c:Int)] w fun e w'=>e=.returned (.tuple #[])∧Evo w S w' S∧Rd w' b s S (wantB s st c):=by
  by_cases h:st.err=0
  · rw [show wantB s st c=wantSt s st c by rw [wantB,if_pos h]]
    exact want_any w b s S st c hR hs (hi h) h
  · rw [show wantB s st c={ st with i:=st.i + 1 } by rw [wantB,if_neg h]]
    exact want_no w b s S st c hR hs hi2 h
theorem wantB_yes {s:ByteArray} {st:St} {c:Nat} (h0:st.err=0) (h:G.pk s (G.skip s st.i)=(c:Int)):wantB s st c={ st with i:=G.skip s st.i + 1 }:=by rw [wantB,if_pos h0,wantSt,if_pos h]
theorem wantB_no {s:ByteArray} {st:St} {c:Nat} (h0:st.err=0) (h:¬ G.pk s (G.skip s st.i)=(c:Int)):wantB s st c={ st with i:=G.skip s st.i + 1,err:=2,place:=G.skip s st.i }:=by rw [wantB,if_pos h0,wantSt,if_neg h]
theorem wantB_err {s:ByteArray} {st:St} {c:Nat} (h0:¬ st.err=0):wantB s st c={ st with i:=st.i + 1 }:=by rw [wantB,if_neg h0]
theorem wantB_deep (s:ByteArray) (st:St) (c:Nat):(wantB s st c).deep=st.deep:=by
  unfold wantB wantSt
  split
  · split <;> rfl
  · rfl
set_option maxRecDepth 100000 in
set_option maxHeartbeats 2000000 in
theorem atom_paren (w:World) (b:Nat) (s:ByteArray) (S:Nat→Prop) (st:St) (d:Nat) (hR:Rd w b s S st) (hs:s.size≤2000) (hP:Pre s st) (_hev:st.env.length≤100000) (hd:st.deep=d) (_hd40:d≤40) (hp:G.pk s (G.skip s st.i)=40) (h40:d ≠ 40) (hIH:ExprAt b s (d + 1)) :
    Calls Tryz.prog 146 #[.pointer (some ⟨b,0,none⟩)] w fun e w'=>∃ v r,e=.returned (.int .i64 v)∧G.R s st.env .atom st.deep (G.skip s st.i) st.T r∧ReadPost w b s S st r (10 * (41 - d) + 5) v w':=by
  obtain ⟨he0,hile,hTl,hwf,henv⟩:=hP
  obtain ⟨hSb,_⟩:=hR.inS
  have hkl:=G.skip_le s st.i hile
  have hkg:=G.skip_ge s st.i
  have hsee:seeV s { st with i:=G.skip s st.i }=G.pk s (G.skip s st.i):=seeV_ok (st:={ st with i:=G.skip s st.i }) he0
  obtain ⟨k,hk⟩:∃ k,k=G.skip s st.i:=⟨_,rfl⟩
  rw [← hk] at hp hsee hkl hkg ⊢
  have hlt:=G.lt_of_pk (s:=s) (i:=k) (by omega)
  rw [hp] at hsee
  have HK:Hid (k=G.skip s st.i):=hk
  have HD:Hid (st.deep=d):=hd
  clear hk hd
  have h40':(st.deep:Int) ≠ 40:=by rw [HD.out];omega
  have h40b:((st.deep:Int) == 40)=false:=by simpa using h40'
  have hdb:st.deep≤100:=by rw [HD.out];omega
  go_enter Tryz.func146,Tryz.ntmps146
  go_wp2_with (first
    | (go_at_call 111;refine hN.mono ?_;rintro e w3 ⟨v,r,rfl,hr,S3,st3,hR3,hE3,hd3,hev3,hru3,hm⟩;have HQ:Hid _:=And.intro hr (And.intro hE3 (And.intro hd3 (And.intro hev3 (And.intro hru3 hm))));have hx1:st3.err=0→st3.i≤s.size:=(by cases r with | ok n j T'=>(rw [hm.2];exact fun _=>(hfn _ hr).2.1) | err c p=>exact fun h=>absurd h (by rw [hm.1];exact hm.2.2.1));have hx2:st3.i≤100000:=(by cases r with | ok n j T'=>(rw [hm.2];have:=(hfn _ hr).2.1;show j≤_;omega) | err c p=>(have:=hm.2.2.2.1;omega));clear hr hE3 hd3 hev3 hru3 hm)
    | (go_at_call 112;refine (want_both w3 b s S3 st3 41 hR3 hs hx1 hx2).mono ?_;rintro e w4 ⟨rfl,hE4,hR4⟩;clear c0 c1 c2 c3 c4 fr;obtain ⟨c0,c1,c2,c3,c4,fr⟩:=hR4.reads;have c4':w4.cell? ⟨b,4,none⟩=some (.int .i64 ((st.deep:Int) + 1)):=by rw [c4,wantB_deep,HQ.out.2.2.1];rfl
       clear c4)
    | (go_at_call 80;refine (skip_any w b s S st hR hs hile he0).mono ?_;rw [← HK.out];rintro e w1 ⟨rfl,hR1,hE1⟩;obtain ⟨c0,c1,c2,c3,c4,fr⟩:=hR1.reads)
    | (go_at_call 107;refine (see_any w1 b s S _ hR1 hs (by show k≤_;omega)).mono ?_;rw [hsee];rintro e w2 ⟨rfl,n2,rfl⟩;have E34:=((hE1.drewN n2).set hSb (.inl hSb) 1 (.int .i64 ((k:Int) + 1))).set hSb (.inl hSb) 4 (.int .i64 ((st.deep:Int) + 1));have hR2:=(hR1.drewN n2).inc.setDeep (st.deep + 1);have hP1:Pre s ({ st with i:=k + 1,deep:=st.deep + 1 }:St):=⟨he0,by show k + 1≤_;omega,by show st.T.length≤4 * (k + 1);omega,hwf,henv⟩;have hN:=hIH _ S _ hR2 hP1 _hev (by show st.deep + 1=d + 1;rw [HD.out]);have hfn:=fun r (hr:G.R s st.env (.expr []) (st.deep + 1) (k + 1) st.T r)=>hr.fine (by omega) hwf (by simp [G.NT.parts]) (by simp [G.NT.ranges]) henv))
  go_ret
  have hR5:=hR4.setDeep st.deep
  have hEall:Evo w S _ S3:=((E34.trans HQ.out.2.1).trans hE4).set hR4.inS.1 (.inl hSb) 4 (.int .i64 (st.deep:Int))
  obtain ⟨hr,-,q3,q4,q5,q6⟩:=HQ.out
  cases r with
  | ok n j T' =>
    obtain ⟨rfl,rfl⟩:=q6
    have hf:=hfn _ hr
    have hjl:=hf.2.1
    have hsk:=G.skip_le s j hjl
    by_cases h41:G.pk s (G.skip s j)=41
    · rw [wantB_yes (st:=({ st with i:=j,deep:=st.deep + 1,T:=T' }:St)) (c:=41) he0 h41] at hR5
      exact ⟨_,_,rfl,G.R.paren hp (by rw [HD.out];exact h40) hr h41,S3,_,hR5,hEall,rfl,rfl,rfl,rfl,rfl⟩
    · rw [wantB_no (st:=({ st with i:=j,deep:=st.deep + 1,T:=T' }:St)) (c:=41) he0 h41] at hR5
      have h6:=hf.2.2.2.2.2
      simp only [G.NT.sl,G.NT.sr] at h6
      exact ⟨_,_,rfl,G.R.parenForm hp (by rw [HD.out];exact h40) hr h41,S3,_,hR5,hEall,rfl,rfl,rfl,rfl,rfl,by omega,by show G.skip s j + 1≤_;omega,by show T'.length≤_;omega,hf.2.2.2.1.le,by obtain ⟨X,hX⟩:=hf.2.2.2.2.1;show st.T.length≤T'.length;rw [hX];simp⟩
  | err c p =>
    obtain ⟨z1,z2,z3,z4,z5,z6,z7⟩:=q6
    rw [wantB_err (by rw [z1];exact z3)] at hR5
    exact ⟨_,_,rfl,G.R.parenErr hp (by rw [HD.out];exact h40) hr,S3,_,hR5,hEall,rfl,q4,q5,z1,z2,z3,by show st3.i + 1≤_;omega,by show st3.T.length≤_;omega,z6,z7⟩
theorem atom_any (w:World) (b:Nat) (s:ByteArray) (S:Nat→Prop) (st:St) (d:Nat) (hR:Rd w b s S st) (hs:s.size≤2000) (hP:Pre s st) (hev:st.env.length≤100000) (hd:st.deep=d) (hd40:d≤40) (hIH:d < 40→ExprAt b s (d + 1)) (hp:G.atomic (G.pk s (G.skip s st.i))=true) :
    Calls Tryz.prog 146 #[.pointer (some ⟨b,0,none⟩)] w fun e w'=>∃ v r,e=.returned (.int .i64 v)∧G.R s st.env .atom st.deep (G.skip s st.i) st.T r∧ReadPost w b s S st r (10 * (41 - d) + 5) v w':=by
  simp only [G.atomic,decide_eq_true_eq] at hp
  rcases hp with h | h | h | h | h
  · by_cases h40:d=40
    · exact atom_deep w b s S st d hR hs hP hev hd hd40 h h40
    · exact atom_paren w b s S st d hR hs hP hev hd hd40 h h40 (hIH (by omega))
  · exact atom_dot w b s S st d hR hs hP hev hd hd40 h
  · exact atom_name w b s S st d hR hs hP hev hd hd40 h
  · exact atom_quote w b s S st d hR hs hP hev hd hd40 h
  · exact atom_set w b s S st d hR hs hP hev hd hd40 h
end Rf
end Go.Proofs.YtpgcidpghmoibaaGreatDoor
