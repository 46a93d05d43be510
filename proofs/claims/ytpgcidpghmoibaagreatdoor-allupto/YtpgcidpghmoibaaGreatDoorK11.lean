/-
  THE REFERENCE's READER
  THE REFERENCE's READER
  THE REFERENCE's READER
  THE REFERENCE's READER
  THE REFERENCE's READER
-/
import Derived.Test.YtpgcidpghmoibaaGreatDoorK10
import Derived.Test.YtpgcidpghmoibaaGreatDoorK04
namespace Go.Proofs.YtpgcidpghmoibaaGreatDoor
namespace Rf
open Go.RowKit
open G (PNode)
set_option maxRecDepth 100000 in
set_option maxHeartbeats 2000000 in
theorem escape_u_bad (w:World) (b:Nat) (s:ByteArray) (S:Nat→Prop) (st:St) (hR:Rd w b s S st) (hs:s.size≤2000) (_hi:st.i < s.size) (h0:st.err=0)
    (hself:¬ G.self (G.pk s (st.i + 1))=true) (hn:¬ G.pk s (st.i + 1)=110) (ht:¬ G.pk s (st.i + 1)=116) (hu:G.pk s (st.i + 1)=117) (h6:st.i + 6≤s.size) (hok:¬ (G.hexs s (st.i + 2)=true∧(G.hexv s (st.i + 2) < 55296 ∨ 57344≤G.hexv s (st.i + 2)))) :
    Calls Tryz.prog 164 #[.pointer (some ⟨b,0,none⟩)] w fun e w'=>CharPost w b s S st (G.esc s st.i) e w':=by
  obtain ⟨hSb,_⟩:=hR.inS
  obtain ⟨c0,c1,c2,c3,c4,fr⟩:=hR.reads
  have hsee:seeV s { st with i:=st.i + 1 }=G.pk s (st.i + 1):=seeV_ok (st:={ st with i:=st.i + 1 }) h0
  have R2:∀ n,Rd (((w.setCell ⟨b,1,none⟩ (.int .i64 ((st.i:Int) + 1))).drewN n).setCell ⟨b,1,none⟩ (.int .i64 ((st.i:Int) + 1 + 1))) b s S { st with i:=st.i + 2 }:=fun n=>(hR.inc.drewN n).inc
  have E2:∀ n,Evo w S (((w.setCell ⟨b,1,none⟩ (.int .i64 ((st.i:Int) + 1))).drewN n).setCell ⟨b,1,none⟩ (.int .i64 ((st.i:Int) + 1 + 1))) S:=fun n=>(((Evo.refl w S).set hSb (.inl hSb) _ _).drewN n).set hSb (.inl hSb) _ _
  have HE:Hid _:=And.intro R2 E2
  clear R2 E2
  rw [hu] at hsee
  have hv:=hexV_extract s (st.i + 2) (by omega)
  have he:G.esc s st.i=none:=by unfold G.esc;rw [if_neg hself,if_neg hn,if_neg ht,if_neg (fun h=>hok h.2.2)]
  rw [he]
  have hneg:∃ v:Int,hexV (s.extract (st.i + 2) (st.i + 2 + 4))=v∧-1≤v∧v≤65535∧(v < 0 ∨ 55296≤v∧v < 57344):=by
    rw [hv]
    by_cases hx:G.hexs s (st.i + 2)=true
    · rw [if_pos hx]
      have:=G.hexv_le s _ hx
      exact ⟨_,rfl,by omega,by omega,by have:=hok;simp only [hx,true_and] at this;omega⟩
    · rw [if_neg hx]
      exact ⟨_,rfl,by omega,by omega,by omega⟩
  obtain ⟨v,hv,hv1,hv2,hv3⟩:=hneg
  clear hself he hn ht hok
  go_enter Tryz.func164,Tryz.ntmps164
  go_wp2_with (go_at_call 107;refine (see_any _ b s S _ hR.inc hs (by show st.i + 1≤_;omega)).mono ?_;rw [hsee];rintro e w' ⟨rfl,n2,rfl⟩)
  go_quiet (fail)
  go_wp2
  have g1:(0:Int)≤(st.i:Int) + 1 + 1:=by omega
  have g2:(st.i:Int) + 1 + 1≤(st.i:Int) + 1 + 1 + 4:=by omega
  have g3:(st.i:Int) + 1 + 1 + 4≤(s.size:Int):=by omega
  refine wp_region_quiet_lit (by kernel_rfl) (by kernel_rfl) ?_
  repeat (first
    | go_big_quiet_step ((go_at_call 172;refine (hex_any _ _ (by rw [ByteArray.size_extract];omega)).mono ?_;rintro e w' ⟨rfl,rfl⟩;exact ⟨rfl,_,rfl⟩))
    | quiet_step ((go_at_call 172;refine (hex_any _ _ (by rw [ByteArray.size_extract];omega)).mono ?_;rintro e w' ⟨rfl,rfl⟩;exact ⟨rfl,_,rfl⟩)))
  refine wpQuiet_nil ?_
  intro _ hw'
  obtain ⟨nq,hw''⟩:=hw'
  subst hw''
  rw [show st.i + 1 + 1=st.i + 2 from rfl,hv]
  rcases hv3 with hv3 | ⟨hv3,hv4⟩
  all_goals
    go_wp2_with (go_at_call 110;refine (fail_any _ b s S _ 2 st.i (((HE.out.1 _).drewN _).setI (st.i + 6))).mono ?_;rintro e w' ⟨rfl,hRf,hEf⟩)
    go_ret
    rw [failed,if_pos h0] at hRf
    exact ⟨(((HE.out.2 _).drewN _).set hSb (.inl hSb) _ _).trans hEf,0,st.i + 6,rfl,by omega,hRf⟩
end Rf
end Go.Proofs.YtpgcidpghmoibaaGreatDoor

namespace Go.Proofs.YtpgcidpghmoibaaGreatDoor
namespace Rf
open Go.RowKit
open G (PNode)
set_option maxRecDepth 100000 in
set_option maxHeartbeats 2000000 in
theorem escape_u_short (w:World) (b:Nat) (s:ByteArray) (S:Nat→Prop) (st:St) (hR:Rd w b s S st) (hs:s.size≤2000) (hi:st.i < s.size) (h0:st.err=0)
    (hself:¬ G.self (G.pk s (st.i + 1))=true) (hn:¬ G.pk s (st.i + 1)=110) (ht:¬ G.pk s (st.i + 1)=116) (hu:G.pk s (st.i + 1)=117) (h6:¬ st.i + 6≤s.size) :
    Calls Tryz.prog 164 #[.pointer (some ⟨b,0,none⟩)] w fun e w'=>CharPost w b s S st (G.esc s st.i) e w':=by
  obtain ⟨hSb,_⟩:=hR.inS
  obtain ⟨c0,c1,c2,c3,c4,fr⟩:=hR.reads
  have hsee:seeV s { st with i:=st.i + 1 }=G.pk s (st.i + 1):=seeV_ok (st:={ st with i:=st.i + 1 }) h0
  have R2:∀ n,Rd (((w.setCell ⟨b,1,none⟩ (.int .i64 ((st.i:Int) + 1))).drewN n).setCell ⟨b,1,none⟩ (.int .i64 ((st.i:Int) + 1 + 1))) b s S { st with i:=st.i + 2 }:=fun n=>(hR.inc.drewN n).inc
  have E2:∀ n,Evo w S (((w.setCell ⟨b,1,none⟩ (.int .i64 ((st.i:Int) + 1))).drewN n).setCell ⟨b,1,none⟩ (.int .i64 ((st.i:Int) + 1 + 1))) S:=fun n=>(((Evo.refl w S).set hSb (.inl hSb) _ _).drewN n).set hSb (.inl hSb) _ _
  have HE:Hid _:=And.intro R2 E2
  clear R2 E2
  rw [hu] at hsee
  have he:G.esc s st.i=none:=by unfold G.esc;rw [if_neg hself,if_neg hn,if_neg ht,if_neg (fun h=>h6 h.2.1)]
  rw [he]
  clear hself he hn ht
  go_enter Tryz.func164,Tryz.ntmps164
  go_wp2_with (go_at_call 107;refine (see_any _ b s S _ hR.inc hs (by show st.i + 1≤_;omega)).mono ?_;rw [hsee];rintro e w' ⟨rfl,n2,rfl⟩)
  go_quiet (fail)
  go_wp2_with (go_at_call 110;refine (fail_any _ b s S _ 2 st.i ((HE.out.1 _).drewN _)).mono ?_;rintro e w' ⟨rfl,hRf,hEf⟩)
  go_ret
  rw [failed,if_pos h0] at hRf
  exact ⟨((HE.out.2 _).drewN _).trans hEf,0,st.i + 2,rfl,by omega,hRf⟩
set_option maxRecDepth 100000 in
set_option maxHeartbeats 2000000 in
theorem escape_other (w:World) (b:Nat) (s:ByteArray) (S:Nat→Prop) (st:St) (hR:Rd w b s S st) (hs:s.size≤2000) (hi:st.i < s.size) (h0:st.err=0)
    (hself:¬ G.self (G.pk s (st.i + 1))=true) (hn:¬ G.pk s (st.i + 1)=110) (ht:¬ G.pk s (st.i + 1)=116) (hu:¬ G.pk s (st.i + 1)=117) :
    Calls Tryz.prog 164 #[.pointer (some ⟨b,0,none⟩)] w fun e w'=>CharPost w b s S st (G.esc s st.i) e w':=by
  obtain ⟨hSb,_⟩:=hR.inS
  obtain ⟨c0,c1,c2,c3,c4,fr⟩:=hR.reads
  have hsee:seeV s { st with i:=st.i + 1 }=G.pk s (st.i + 1):=seeV_ok (st:={ st with i:=st.i + 1 }) h0
  have R2:∀ n,Rd (((w.setCell ⟨b,1,none⟩ (.int .i64 ((st.i:Int) + 1))).drewN n).setCell ⟨b,1,none⟩ (.int .i64 ((st.i:Int) + 1 + 1))) b s S { st with i:=st.i + 2 }:=fun n=>(hR.inc.drewN n).inc
  have E2:∀ n,Evo w S (((w.setCell ⟨b,1,none⟩ (.int .i64 ((st.i:Int) + 1))).drewN n).setCell ⟨b,1,none⟩ (.int .i64 ((st.i:Int) + 1 + 1))) S:=fun n=>(((Evo.refl w S).set hSb (.inl hSb) _ _).drewN n).set hSb (.inl hSb) _ _
  have HE:Hid _:=And.intro R2 E2
  clear R2 E2
  have hns:∀ x:Int,x=39 ∨ x=92 ∨ x=91 ∨ x=93 ∨ x=45 ∨ x=94→G.pk s (st.i + 1) ≠ x:=by
    intro x hx e
    exact hself (by simp only [G.self,decide_eq_true_eq];omega)
  have he:G.esc s st.i=none:=by unfold G.esc;rw [if_neg hself,if_neg hn,if_neg ht,if_neg (fun h=>hu h.1)]
  rw [he]
  have n1:=hns 39 (by omega)
  have n2:=hns 92 (by omega)
  have n3:=hns 91 (by omega)
  have n4:=hns 93 (by omega)
  have n5:=hns 45 (by omega)
  have n6:=hns 94 (by omega)
  clear hself he hns
  generalize G.pk s (st.i + 1)=c at n1 n2 n3 n4 n5 n6 hn ht hu hsee
  go_enter Tryz.func164,Tryz.ntmps164
  go_wp2_with (first
    | (go_at_call 107;refine (see_any _ b s S _ hR.inc hs (by show st.i + 1≤_;omega)).mono ?_;rw [hsee];rintro e w' ⟨rfl,n7,rfl⟩)
    | (go_at_call 110;refine (fail_any _ b s S _ 2 st.i (HE.out.1 _)).mono ?_;rintro e w' ⟨rfl,hRf,hEf⟩))
  go_ret
  rw [failed,if_pos h0] at hRf
  exact ⟨(HE.out.2 _).trans hEf,0,st.i + 2,rfl,by omega,hRf⟩
end Rf
end Go.Proofs.YtpgcidpghmoibaaGreatDoor

namespace Go.Proofs.YtpgcidpghmoibaaGreatDoor
namespace Rf
open Go.RowKit
open G (PNode)
theorem escape_any (w:World) (b:Nat) (s:ByteArray) (S:Nat→Prop) (st:St) (hR:Rd w b s S st) (hs:s.size≤2000) (hi:st.i < s.size) (h0:st.err=0) :
    Calls Tryz.prog 164 #[.pointer (some ⟨b,0,none⟩)] w fun e w'=>CharPost w b s S st (G.esc s st.i) e w':=by
  by_cases hself:G.self (G.pk s (st.i + 1))=true
  · exact escape_self w b s S st hR hs hi h0 hself
  by_cases hn:G.pk s (st.i + 1)=110
  · exact escape_n w b s S st hR hs hi h0 hself hn
  by_cases ht:G.pk s (st.i + 1)=116
  · exact escape_t w b s S st hR hs hi h0 hself hn ht
  by_cases hu:G.pk s (st.i + 1)=117
  · by_cases h6:st.i + 6≤s.size
    · by_cases hok:G.hexs s (st.i + 2)=true∧(G.hexv s (st.i + 2) < 55296 ∨ 57344≤G.hexv s (st.i + 2))
      · exact escape_u_ok w b s S st hR hs hi h0 hself hn ht hu h6 hok
      · exact escape_u_bad w b s S st hR hs hi h0 hself hn ht hu h6 hok
    · exact escape_u_short w b s S st hR hs hi h0 hself hn ht hu h6
  · exact escape_other w b s S st hR hs hi h0 hself hn ht hu
end Rf
end Go.Proofs.YtpgcidpghmoibaaGreatDoor

namespace Go.Proofs.YtpgcidpghmoibaaGreatDoor
namespace Rf
open Go.RowKit
open G (PNode)
theorem CharPost.ret {w w':World} {b:Nat} {s:ByteArray} {S:Nat→Prop} {st:St} {r:Option (Nat × Nat)} {e:Ending} (h:CharPost w b s S st r e w'):∃ v:Nat,e=.returned (.int .i64 (v:Int)):=by
  obtain ⟨_,h⟩:=h
  match r,h with
  | some (x,j),h=>exact ⟨x,h.1⟩
  | none,⟨x,m,h,_⟩=>exact ⟨x,h⟩
theorem CharPost.after {w w1 w':World} {b:Nat} {s:ByteArray} {S:Nat→Prop} {st:St} {r:Option (Nat × Nat)} {e:Ending} (h:CharPost w1 b s S st r e w') (he:Evo w S w1 S):CharPost w b s S st r e w':=⟨he.trans h.1,h.2⟩
theorem well_eq (s:ByteArray) (i:Nat):wellAt s i=G.well s i:=rfl
set_option maxRecDepth 100000 in
set_option maxHeartbeats 2000000 in
theorem char_any (w:World) (b:Nat) (s:ByteArray) (S:Nat→Prop) (st:St) (x y:Nat) (hR:Rd w b s S st) (hs:s.size≤2000) (hi:st.i≤s.size) (h0:st.err=0) :
    Calls Tryz.prog 158 #[.pointer (some ⟨b,0,none⟩),.int .i64 (x:Int),.int .i64 (y:Int)] w fun e w'=>CharPost w b s S st (G.chr s x y st.i) e w':=by
  obtain ⟨hSb,_⟩:=hR.inS
  obtain ⟨c0,c1,c2,c3,c4,fr⟩:=hR.reads
  have hsee:seeV s st=G.pk s st.i:=seeV_ok h0
  have hfa:failed st 2 st.i={ st with err:=2,place:=st.i }:=by rw [failed,if_pos h0]
  have HF:Hid _:=hfa
  clear hfa
  by_cases hbad:G.pk s st.i < 0 ∨ G.pk s st.i=x ∨ G.pk s st.i=y
  · have hc:G.chr s x y st.i=none:=by unfold G.chr;rw [if_pos hbad]
    rw [hc]
    clear hc
    have hcase:G.pk s st.i < 0 ∨ (¬ G.pk s st.i < 0∧G.pk s st.i=x) ∨ (¬ G.pk s st.i < 0∧¬ G.pk s st.i=x∧G.pk s st.i=y):=by omega
    clear hbad
    generalize G.pk s st.i=p at hcase hsee
    rcases hcase with h1 | ⟨h1,h2⟩ | ⟨h1,h2,h3⟩
    all_goals
      go_enter Tryz.func158,Tryz.ntmps158
      go_wp2_with (first
        | (go_at_call 107;refine (see_any _ b s S st hR hs (by omega)).mono ?_;rw [hsee];rintro e w' ⟨rfl,n2,rfl⟩)
        | (go_at_call 110;refine (fail_any _ b s S st 2 st.i (hR.drewN _)).mono ?_;rw [HF.out];rintro e w3 ⟨rfl,hR3,hE3⟩))
      go_ret
      exact ⟨((Evo.refl w S).drewN _).trans hE3,0,st.i,rfl,by omega,hR3⟩
  · have hlt:=G.lt_of_pk (s:=s) (i:=st.i) (by omega)
    have n1:¬ G.pk s st.i < 0:=by omega
    have n2:(G.pk s st.i == (x:Int))=false:=by simp;omega
    have n3:(G.pk s st.i == (y:Int))=false:=by simp;omega
    by_cases h92:G.pk s st.i=92
    · have hc:G.chr s x y st.i=G.esc s st.i:=by unfold G.chr;rw [if_neg hbad,if_pos h92]
      rw [hc]
      clear hc hbad
      rw [h92] at n1 n2 n3 hsee
      go_enter Tryz.func158,Tryz.ntmps158
      go_wp2_with (first
        | (go_at_call 107;refine (see_any _ b s S st hR hs (by omega)).mono ?_;rw [hsee];rintro e w' ⟨rfl,n4,rfl⟩)
        | (go_at_call 164;refine (escape_any _ b s S st (hR.drewN _) hs hlt h0).mono ?_;intro e w3 hP;obtain ⟨v,rfl⟩:=hP.ret;have HP:Hid _:=hP;clear hP))
      go_ret
      exact CharPost.after HP.out ((Evo.refl w S).drewN _)
    · have hnx:=next_any s st.i
      by_cases hw:G.well s st.i=true
      · have hc:G.chr s x y st.i=some ((Utf8.decode s st.i).1,st.i + (Utf8.decode s st.i).2):=by unfold G.chr;rw [if_neg hbad,if_neg h92,if_pos hw]
        rw [hc]
        have hwd:=U.width s st.i hlt
        have hww:wellAt s st.i=true:=hw
        clear hc hbad hw
        generalize Utf8.decode s st.i=de at *
        generalize G.pk s st.i=p at *
        go_enter Tryz.func158,Tryz.ntmps158
        go_wp2_with (go_at_call 107;refine (see_any _ b s S st hR hs (by omega)).mono ?_;rw [hsee];rintro e w' ⟨rfl,n4,rfl⟩)
        go_quiet ((go_at_call 118;refine (hnx _ (by omega) hlt).mono ?_;rw [hww];rintro e w' ⟨rfl,rfl⟩;exact ⟨rfl,_,rfl⟩))
        go_wp2
        go_ret
        exact ⟨((Evo.refl w S).drewN _).set hSb (.inl hSb) _ _,rfl,(hR.drewN _).setI (st.i + de.2)⟩
      · have hc:G.chr s x y st.i=none:=by unfold G.chr;rw [if_neg hbad,if_neg h92,if_neg hw]
        rw [hc]
        have hwd:=U.width s st.i hlt
        have hru:=U.rune_le s st.i
        have hd1:(Utf8.decode s st.i).2≤4:=by
          rw [U.decode_eq]
          split
          · simp
          · split
            · split <;> simp
            · split
              · split <;> simp
              · split
                · split <;> simp
                · simp
        have hww:wellAt s st.i=false:=by rw [well_eq];simpa using hw
        clear hc hbad hw
        generalize Utf8.decode s st.i=de at *
        generalize G.pk s st.i=p at *
        go_enter Tryz.func158,Tryz.ntmps158
        go_wp2_with (go_at_call 107;refine (see_any _ b s S st hR hs (by omega)).mono ?_;rw [hsee];rintro e w' ⟨rfl,n4,rfl⟩)
        go_quiet ((go_at_call 118;refine (hnx _ (by omega) hlt).mono ?_;rw [hww];rintro e w' ⟨rfl,rfl⟩;exact ⟨rfl,_,rfl⟩))
        go_wp2_with (go_at_call 110;refine (fail_any _ b s S st 2 st.i (hR.drewN _)).mono ?_;rw [HF.out];rintro e w3 ⟨rfl,hR3,hE3⟩;clear c0 c1 c2 c3 c4 fr;obtain ⟨c0,c1,c2,c3,c4,fr⟩:=hR3.reads)
        go_ret
        exact ⟨(((Evo.refl w S).drewN _).trans hE3).set hSb (.inl hSb) _ _,de.1,st.i + de.2,rfl,by omega,hR3.setI (st.i + de.2)⟩
end Rf
end Go.Proofs.YtpgcidpghmoibaaGreatDoor

namespace Go.Proofs.YtpgcidpghmoibaaGreatDoor
namespace Rf
open Go.RowKit
open G (PNode)
theorem infoNode:(Tryz.prog.info? 118).map (fun i=>(i.zero,i.size,i.bytes))=some (some (.agg #[.int .u8 0,.slice none 0 0,.bool false,.slice none 0 0,.int .i64 0]),5,72):=by kernel_rfl
theorem RdAt.addN {w X w2:World} {b:Nat} {s:ByteArray} {st:St} {vN vM vR v:Value} {V:List (Value × Value)} (h:RdAt w b s st vN vM vR V) (x:PNode) (rv pv:Value)
    (hX:Kept (fun _=>True) w X) (hg:X.grownBy w2 vN.ownBlock) (hown:w2.ownsRow 0 118 5 v (st.T.length + 1) (ncells st.T V ++ ncell x (rv,pv))) (hat:Lies w vN v)
    (hrv:w.ownsRow 0 201 2 rv x.ranges.length (rcells x.ranges)) (hpv:w.ownsRow 0 3 1 pv x.parts.length (ints x.parts))
    (hr:∀ k,rv.ownBlock=some k ∨ pv.ownBlock=some k→¬ Foot b vN vM vR V k) :
    RdAt (w2.setCell ⟨b,5,none⟩ v) b s { st with T:=st.T ++ [x] } v vM vR (V ++ [(rv,pv)]):=by
  have hb:=lt_of_block h.blk
  have h2:∀ k,k < w.heap.size→vN.ownBlock ≠ some k→w2.heap[k]?=w.heap[k]?:=fun k hk hn=>(hg.block k (Nat.lt_of_lt_of_le hk hX.size) (fun e=>hn e.symm)).trans (hX.block k hk trivial)
  have h3:∀ k,k < w.heap.size→vN.ownBlock ≠ some k→k ≠ b→(w2.setCell ⟨b,5,none⟩ v).heap[k]?=w.heap[k]?:=fun k hk hn hne=>(blk_ne v hne).trans (h2 k hk hn)
  have hvb:v.ownBlock ≠ some b:=by
    intro e
    rcases hat b e with e2 | e2
    · exact h.nbN e2
    · omega
  have new:∀ k,k < w.heap.size→vN.ownBlock ≠ some k→v.ownBlock ≠ some k:=by
    intro k hk hn e
    rcases hat k e with e2 | e2
    · exact hn e2
    · omega
  refine ⟨?_,by simp [h.len],?_,?_,?_,?_,hvb,h.nbM,h.nbR,?_,?_,h.apMR,?_⟩
  · have e:w2.heap[b]?=_:=(h2 b hb h.nbN).trans h.blk
    rw [blk_set e]
    rfl
  · have e:=ncells_snoc st.T V x (rv,pv) h.len
    simp only [List.length_append,List.length_singleton]
    rw [e]
    exact own_same hown (fun k e=>blk_ne v (fun e2=>hvb (e2 ▸ e)))
  · exact own_same h.oM (fun k e=>h3 k (h.oM.lt k e).2 (fun e2=>h.apNM k e2 e) (fun e2=>h.nbM (e2 ▸ e)))
  · exact own_same h.oR (fun k e=>h3 k (h.oR.lt k e).2 (fun e2=>h.apNR k e2 e) (fun e2=>h.nbR (e2 ▸ e)))
  · intro k y u hy hu
    rcases Nat.lt_or_ge k st.T.length with hk | hk
    · rw [List.getElem?_append_left hk] at hy
      rw [List.getElem?_append_left (by rw [h.len];exact hk)] at hu
      obtain ⟨o1,o2⟩:=h.oV k y u hy hu
      have hm:=List.mem_of_getElem? hu
      exact ⟨own_same o1 (fun j e=>h3 j (o1.lt j e).2 (h.imm u hm j (.inl e)).2.1 (h.imm u hm j (.inl e)).1),own_same o2 (fun j e=>h3 j (o2.lt j e).2 (h.imm u hm j (.inr e)).2.1 (h.imm u hm j (.inr e)).1)⟩
    · rw [List.getElem?_append_right hk] at hy
      rw [List.getElem?_append_right (by rw [h.len];exact hk),h.len] at hu
      have hk0:k - st.T.length=0:=by
        have:=List.getElem?_eq_some_iff.1 hy
        obtain ⟨h1,_⟩:=this
        simp at h1
        omega
      rw [hk0] at hy hu
      simp only [List.getElem?_cons_zero,Option.some.injEq] at hy hu
      subst hy hu
      exact ⟨own_same hrv (fun j e=>h3 j (hrv.lt j e).2 (fun e2=>hr j (.inl e) (.inr (.inl e2))) (fun e2=>hr j (.inl e) (.inl e2))),own_same hpv (fun j e=>h3 j (hpv.lt j e).2 (fun e2=>hr j (.inr e) (.inr (.inl e2))) (fun e2=>hr j (.inr e) (.inl e2)))⟩
  · intro k e1 e2
    exact new k (h.oM.lt k e2).2 (fun e3=>h.apNM k e3 e2) e1
  · intro k e1 e2
    exact new k (h.oR.lt k e2).2 (fun e3=>h.apNR k e3 e2) e1
  · intro y hy k e
    rcases List.mem_append.1 hy with hy | hy
    · obtain ⟨i1,i2,i3,i4⟩:=h.imm y hy k e
      exact ⟨i1,new k (h.lt k (.inr (.inr (.inr (.inr ⟨y,hy,e⟩))))) i2,i3,i4⟩
    · simp only [List.mem_singleton] at hy
      subst hy
      have hn:=hr k e
      have hlt:k < w.heap.size:=by
        rcases e with e | e
        · exact (hrv.lt k e).2
        · exact (hpv.lt k e).2
      exact ⟨fun e2=>hn (.inl e2),new k hlt (fun e2=>hn (.inr (.inl e2))),fun e2=>hn (.inr (.inr (.inl e2))),fun e2=>hn (.inr (.inr (.inr (.inl e2))))⟩
theorem addN_fin {w wz X w4:World} {b:Nat} {s:ByteArray} {S:Nat→Prop} {st:St} {vN vM vR:Value} {V:List (Value × Value)} {g2 cap2:Nat} (x:PNode) (rv pv:Value)
    (hf:∀ j,Foot b vN vM vR V j→S j) (hS:∀ j,S j→j < w.heap.size) (A:RdAt wz b s st vN vM vR V) (hz:Kept (fun _=>True) w wz) (hX:Kept (fun _=>True) wz X) (hg:X.grownBy w4 vN.ownBlock)
    (hown:w4.ownsRow 0 118 5 (.slice (some ⟨g2,0,none⟩) (st.T.length + 1) cap2) (st.T.length + 1) (ncells st.T V ++ ncell x (rv,pv))) (hat:vN.ownBlock=some g2 ∨ g2=wz.heap.size + 1) (hlt:g2 < w4.heap.size)
    (hrv:w.ownsRow 0 201 2 rv x.ranges.length (rcells x.ranges)) (hpv:w.ownsRow 0 3 1 pv x.parts.length (ints x.parts)) (hrS:∀ j,rv.ownBlock=some j→¬ S j) (hpS:∀ j,pv.ownBlock=some j→¬ S j) :
    ∃ S',Rd (w4.setCell ⟨b,5,none⟩ (.slice (some ⟨g2,0,none⟩) (st.T.length + 1) cap2)) b s S' { st with T:=st.T ++ [x] }∧Kept (fun j=>¬ S j) w (w4.setCell ⟨b,5,none⟩ (.slice (some ⟨g2,0,none⟩) (st.T.length + 1) cap2)) ∧
      ∀ j,S' j→S j ∨ rv.ownBlock=some j ∨ pv.ownBlock=some j ∨ w.heap.size≤j:=by
  have hsz:w.heap.size≤w4.heap.size:=Nat.le_trans hz.size (Nat.le_trans hX.size hg.size)
  have R2:=A.addN x rv pv hX hg hown (lies_of hat (by omega)) (own_same hrv (fun j e=>hz.block j (hrv.lt j e).2 trivial)) (own_same hpv (fun j e=>hz.block j (hpv.lt j e).2 trivial))
    (fun j e h2=>by
      rcases e with e | e
      · exact hrS j e (hf j h2)
      · exact hpS j e (hf j h2))
  refine ⟨fun j=>S j ∨ rv.ownBlock=some j ∨ pv.ownBlock=some j ∨ (w.heap.size≤j∧j < w4.heap.size),⟨_,_,_,_,R2,?_,?_⟩,?_,?_⟩
  · rintro j (rfl | e | e | e | ⟨y,hy,e⟩)
    · exact .inl (hf _ (.inl rfl))
    · have e2:g2=j:=by simpa [Value.ownBlock] using e
      subst e2
      rcases hat with h | h
      · exact .inl (hf _ (.inr (.inl h)))
      · exact .inr (.inr (.inr ⟨by have:=hz.size;omega,hlt⟩))
    · exact .inl (hf _ (.inr (.inr (.inl e))))
    · exact .inl (hf _ (.inr (.inr (.inr (.inl e)))))
    · rcases List.mem_append.1 hy with hy | hy
      · exact .inl (hf _ (.inr (.inr (.inr (.inr ⟨y,hy,e⟩)))))
      · simp only [List.mem_singleton] at hy
        subst hy
        rcases e with e | e
        · exact .inr (.inl e)
        · exact .inr (.inr (.inl e))
  · have e:(w4.setCell ⟨b,5,none⟩ (.slice (some ⟨g2,0,none⟩) (st.T.length + 1) cap2)).heap.size=w4.heap.size:=by simp [World.setCell]
    rw [e]
    rintro j (h | h | h | h)
    · have:=hS j h;omega
    · have:=(hrv.lt j h).2;omega
    · have:=(hpv.lt j h).2;omega
    · exact h.2
  · refine Kept.setCell ?_ (fun hn=>hn (hf b (.inl rfl))) _
    refine Kept.grown ((hz.trans hX).mono (fun _ _ _=>trivial)) hg (fun j e _ hn=>hn (hf j (.inr (.inl e))))
  · rintro j (h | h | h | h)
    · exact .inl h
    · exact .inr (.inl h)
    · exact .inr (.inr (.inl h))
    · exact .inr (.inr (.inr h.1))
theorem set4 {a b c d e:Value} {t:TypeId} {q q':Int} (h:q=q'):some (Obj.cells (#[a,b,c,d,e].setIfInBounds 4 (.int .i64 q)) t (0,0))=some (Obj.cells #[a,b,c,d,.int .i64 q'] t (0,0)):=by subst h;rfl
theorem sizeOf_take (T:List PNode) (ps:List Nat) (j:Nat) (p:Nat) (x:PNode) (hp:ps[j]?=some p) (hx:T[p]?=some x):G.sizeOf T (ps.take (j + 1))=G.sizeOf T (ps.take j) + x.size:=by
  have hj:j < ps.length:=(List.getElem?_eq_some_iff.1 hp).1
  have e:ps[j]'hj=p:=(List.getElem?_eq_some_iff.1 hp).2
  rw [List.take_succ_eq_append_getElem hj,e]
  simp [G.sizeOf,G.sz_eq hx]
theorem sizeOf_le (T:List PNode) (hT:∀ x ∈ T,x.size≤101):∀ ps:List Nat,G.sizeOf T ps≤101 * ps.length
  | []=>by simp [G.sizeOf]
  | p :: ps=>by
    have ih:=sizeOf_le T hT ps
    simp only [G.sizeOf,List.map_cons,List.sum_cons,List.length_cons] at *
    have:G.sz T p≤101:=by
      unfold G.sz
      cases h:T[p]? with
      | none=>simp
      | some x=>exact hT x (List.mem_of_getElem? h)
    omega
set_option maxRecDepth 100000 in
set_option maxHeartbeats 1000000 in
theorem node_any (w:World) (b:Nat) (s:ByteArray) (S:Nat→Prop) (st:St) (hR:Rd w b s S st) (k:Nat) (o:Bool) (rs:List (Nat × Nat)) (ps:List Nat) (rv pv:Value)
    (hrv:w.ownsRow 0 201 2 rv rs.length (rcells rs)) (hpv:w.ownsRow 0 3 1 pv ps.length (ints ps)) (hrS:∀ j,rv.ownBlock=some j→¬ S j) (hpS:∀ j,pv.ownBlock=some j→¬ S j)
    (hps:∀ p ∈ ps,p < st.T.length) (hTl:st.T.length≤100000) (hpl:ps.length≤100000) (hsz:∀ x ∈ st.T,x.size≤101) :
    Calls Tryz.prog 135 #[.pointer (some ⟨b,0,none⟩),.agg #[.int .u8 (k:Int),rv,.bool o,pv,.int .i64 0]] w fun e w'=>e=.returned (.int .i64 (st.T.length:Int)) ∧
      ∃ S',Rd w' b s S' { st with T:=st.T ++ [G.mk st.T k rs o ps] }∧Kept (fun j=>¬ S j) w w'∧∀ j,S' j→S j ∨ rv.ownBlock=some j ∨ pv.ownBlock=some j ∨ w.heap.size≤j:=by
  obtain ⟨i0,hi,hz0,hz1,hz2⟩:=info_parts infoNode
  obtain ⟨hSb,hbl⟩:=hR.inS
  obtain ⟨pa,pc,hpe⟩:=own_len hpv
  subst hpe
  obtain ⟨z0,hz⟩:∃ z0:Nat,z0=if k=115 then 1 else 0:=⟨_,rfl⟩
  have hbx:b ≠ w.heap.size:=by omega
  have hz1':z0≤1:=by rw [hz];split <;> omega
  have hmk:G.mk st.T k rs o ps=⟨k,rs,o,ps,min (z0 + G.sizeOf st.T ps) 101⟩:=by rw [G.mk,← hz]
  have HM:Hid _:=hmk
  clear hmk
  have hcase:(((k:Int) == 115)=true∧Hid (z0=1)) ∨ (((k:Int) == 115)=false∧Hid (z0=0)):=by
    by_cases h:k=115
    · exact .inl ⟨by simpa using (by omega:(k:Int)=115),by show z0=1;rw [hz,if_pos h]⟩
    · exact .inr ⟨by simpa using (by omega:¬ (k:Int)=115),by show z0=0;rw [hz,if_neg h]⟩
  clear hz
  rcases hcase with ⟨hk2,hzz⟩ | ⟨hk2,hzz⟩
  all_goals
    go_enter Tryz.func135,Tryz.ntmps135
    go_wp2
    go_loopw [5] (fun i wr=>∃ j:Nat,j≤ps.length∧i=.int .i64 j∧wr.heap[w.heap.size]?=some (.cells #[.int .u8 (k:Int),rv,.bool o,.slice pa ps.length pc,.int .i64 ((z0 + G.sizeOf st.T (ps.take j):Nat):Int)] 118 (0,0))∧Kept (fun _=>True) w wr∧wr.heap.size=w.heap.size + 1) (fun i _=>ps.length - (intOf i).toNat)
    case atStart=>exact ⟨0,by omega,rfl,by rw [hzz.out];exact heap_alloc_new w _,(Kept.refl _ _).alloc _,by simp⟩
    case round =>
      obtain ⟨j,hj,rfl,hbox,hkp,hws⟩:=hrel
      have hRr:Rd wr b s S st:=hR.same hkp.size (fun m hm=>hkp.block m (hR.lt m hm) trivial)
      obtain ⟨vN,vM,vR,V,A,hf,hlt⟩:=id hRr
      have cb3:=cell_blk hbox 3 _ rfl
      have cb4:=cell_blk hbox 4 _ rfl
      have fb4:=free_blk hbox 4
      have c5:=cell_blk A.blk 5 vN rfl
      by_cases hjl:j < ps.length
      · have hpj:ps[j]?=some (ps[j]'hjl):=List.getElem?_eq_getElem hjl
        generalize ps[j]'hjl=p at hpj
        have hpT:=hps p (List.mem_of_getElem? hpj)
        have hxT:st.T[p]?=some (st.T[p]'hpT):=List.getElem?_eq_getElem hpT
        generalize st.T[p]'hpT=x at hxT
        obtain ⟨u,hu⟩:∃ u,V[p]?=some u:=⟨V[p]'(by rw [A.len];exact hpT),List.getElem?_eq_getElem _⟩
        have hpv':=own_same hpv (fun m e=>hkp.block m (hpv.lt m e).2 trivial)
        obtain ⟨g,cap,hv,_,_⟩:=A.oN.form (by omega)
        obtain ⟨gp,capp,hvp,_,_⟩:=hpv'.form (by omega)
        simp only [Value.slice.injEq] at hvp
        obtain ⟨rfl,_,rfl⟩:=hvp
        subst hv
        have cN:=(A.oN.cells (g:=g) rfl) (p * 5 + 4) (.int .i64 (x.size:Int)) ((ncells_get hxT hu 4 (by omega)).trans rfl)
        have cN':wr.cell? ⟨g,p * 5 + 4,none⟩=some (.int .i64 (x.size:Int)):=by simpa [Addr.add] using cN
        have cP':wr.cell? ⟨gp,j,none⟩=some (.int .i64 (p:Int)):=by rw [hpv'.cellAt j (by omega)];simp [ints,hpj]
        have hst:=sizeOf_take st.T ps j p x hpj hxT
        have hx101:=hsz x (List.mem_of_getElem? hxT)
        have hsl:=sizeOf_le st.T hsz (ps.take j)
        have hsl2:(ps.take j).length≤j:=List.length_take_le _ _
        have HX:Hid _:=And.intro hst (And.intro hbox (And.intro hkp hws))
        clear hst cN
        generalize hsum:G.sizeOf st.T (ps.take j)=sm at *
        have hsm:sm≤10100000:=by omega
        clear hsl hsl2
        go_wp2
        go_region
        all_goals
          go_wp2
          go_roundw
          case rel =>
            refine ⟨j + 1,by omega,by go_num,?_,(HX.out.2.2.1.setNew (Nat.le_refl _) _).drew,by simp [World.setCell];exact HX.out.2.2.2⟩
            rw [HX.out.1]
            refine (blk_set HX.out.2.1 4 _).trans ?_
            exact set4 (by omega)
          case measure=>simp [intOf];omega
      · obtain rfl:j=ps.length:=by omega
        rw [List.take_length] at hbox cb4
        have hsl:=sizeOf_le st.T hsz ps
        have cb0:=cell_blk hbox 0 _ rfl
        have cb1:=cell_blk hbox 1 _ rfl
        have cb2:=cell_blk hbox 2 _ rfl
        have hpv':=own_same hpv (fun m e=>hkp.block m (hpv.lt m e).2 trivial)
        have hrv':=own_same hrv (fun m e=>hkp.block m (hrv.lt m e).2 trivial)
        have hsm:G.sizeOf st.T ps≤10100000:=by omega
        have htot:((z0 + G.sizeOf st.T ps:Nat):Int)=((z0 + G.sizeOf st.T ps:Nat):Int):=rfl
        generalize hto:z0 + G.sizeOf st.T ps=tot at *
        have hto2:tot≤10100001:=by omega
        have nb:=A.nbN
        obtain ⟨z1,hz1e⟩:∃ z1:Nat,z1=min tot 101:=⟨_,rfl⟩
        have hF:∀ W:World,(W=wr∧tot≤101 ∨ W=wr.setCell ⟨w.heap.size,4,none⟩ (.int .i64 101)∧101 < tot) →
            W.heap[w.heap.size]?=some (.cells #[.int .u8 (k:Int),rv,.bool o,.slice pa ps.length pc,.int .i64 (z1:Int)] 118 (0,0))∧RdAt W b s st vN vM vR V∧Kept (fun _=>True) w W∧W.heap.size=w.heap.size + 1:=by
          rintro W (⟨rfl,h1⟩ | ⟨rfl,h1⟩)
          · have e:z1=tot:=by omega
            rw [e]
            exact ⟨hbox,A,hkp,hws⟩
          · have e:z1=101:=by omega
            rw [e]
            refine ⟨(blk_set hbox 4 _).trans rfl,A.put ?_ ?_ rfl rfl rfl,hkp.setNew (Nat.le_refl _) _,by simpa [World.setCell] using hws⟩
            · rw [blk_ne _ hbx];exact A.blk
            · intro m _ hm
              exact blk_ne _ (fun e2=>by have:=hR.lt m (hf m hm);omega)
        have hone:∀ x ∈ [.int .u8 (k:Int),rv,.bool o,.slice pa ps.length pc,.int .i64 (z1:Int)],Value.oneCell' x=true:=by
          intro x hx
          obtain ⟨ra,rc,hra⟩:=own_len hrv
          subst hra
          simp only [List.mem_cons,List.not_mem_nil,or_false] at hx
          rcases hx with rfl | rfl | rfl | rfl | rfl <;> rfl
        have HA:Hid _:=And.intro hF (And.intro hf (And.intro hrv hpv))
        have HA2:Hid _:=And.intro hf (And.intro hrv (And.intro hpv hR.lt))
        rw [← hz1e] at HM
        clear hF hto htot hsl hsm hzz A hf hrv' hpv' hkp hR hrv hpv hps hsz hk2 hz1' hjl hj cb3 hz1e hRr hlt
        have cb3:=cell_blk hbox 3 _ rfl
        by_cases hgt:101 < tot
        · have hgt':(101:Int) < (tot:Int):=by omega
          obtain ⟨f1,f2,f3,f4⟩:=HA.out.1 _ (.inr ⟨rfl,hgt⟩)
          have HF:Hid _:=And.intro f1 (And.intro f2 (And.intro f3 f4))
          clear f1 f2 f3 f4
          go_wp2
          generalize wr.setCell ⟨w.heap.size,4,none⟩ (.int .i64 101)=wz at HF ⊢
          clear cb0 cb1 cb2 cb3 cb4 fb4 c5 hbox hws hgt hgt' HA
          have d0:=cell_blk HF.out.1 0 _ rfl
          have d1:=cell_blk HF.out.1 1 _ rfl
          have d2:=cell_blk HF.out.1 2 _ rfl
          have d3:=cell_blk HF.out.1 3 _ rfl
          have d4:=cell_blk HF.out.1 4 _ rfl
          have c5:=cell_blk HF.out.2.1.blk 5 vN rfl
          have oN:=HF.out.2.1.oN
          have hwz:b < wz.heap.size:=by have:=HF.out.2.2.2;omega
          go_region_law
            ((refine step_append_lies _ (by rfl) _ _ _ (by rfl) 0 118 i0 _ 5 72 Tryz.underlying31 hi hz0 hz1 hz2 rfl (by omega) vN st.T.length (ncells st.T V) (by rfl) ((oN.alloc _).drew)
                ⟨wz.heap.size,0,none⟩ 1 1 [.int .u8 (k:Int),rv,.bool o,.slice pa ps.length pc,.int .i64 (z1:Int)] (by rfl) (by rfl) (World.news_of_block (cs:=#[.int .u8 (k:Int),rv,.bool o,.slice pa ps.length pc,.int .i64 (z1:Int)]) (t:=118) (fr:=(0,0)) (heap_alloc_new wz _)) hone
                (by omega) (by unfold maxLen;omega) (by omega) (by simp) (wz.heap.size + 1) (by simp) ?_;intro g2 cap2 w4 hn2 hg2 hat2 hlt2;have hb4:w4.heap[b]?=_:=(hg2.block b (by simp;omega) (fun e=>nb e.symm)).trans ((Below.heap_alloc _ _ _ (by omega)).trans HF.out.2.1.blk);have fb2':=free_blk hb4 5;have cb2':=cell_blk hb4 5 vN rfl;clear hb4))
          all_goals
            have hfin:=addN_fin ⟨k,rs,o,ps,z1⟩ rv (.slice pa ps.length pc) HA2.out.1 HA2.out.2.2.2 HF.out.2.1 HF.out.2.2.1 (((Kept.refl _ _).alloc _).drew) hg2 hn2 hat2 hlt2 HA2.out.2.1 HA2.out.2.2.1 hrS hpS
            rw [← HM.out] at hfin
            have HQ:Hid _:=hfin
            clear hfin hn2 hg2 hat2 HF HA2 oN c5 d0 d1 d2 d3 d4
            go_wp2
            go_ret
            exact ⟨ret_int (by omega),HQ.out⟩
        · have hgt':¬ (101:Int) < (tot:Int):=by omega
          obtain ⟨f1,f2,f3,f4⟩:=HA.out.1 _ (.inl ⟨rfl,by omega⟩)
          have HF:Hid _:=And.intro f1 (And.intro f2 (And.intro f3 f4))
          clear f1 f2 f3 f4
          go_wp2
          clear cb0 cb1 cb2 cb3 cb4 fb4 c5 hbox hws hgt hgt' HA
          have d0:=cell_blk HF.out.1 0 _ rfl
          have d1:=cell_blk HF.out.1 1 _ rfl
          have d2:=cell_blk HF.out.1 2 _ rfl
          have d3:=cell_blk HF.out.1 3 _ rfl
          have d4:=cell_blk HF.out.1 4 _ rfl
          have c5:=cell_blk HF.out.2.1.blk 5 vN rfl
          have oN:=HF.out.2.1.oN
          have hwr:b < wr.heap.size:=by have:=HF.out.2.2.2;omega
          go_region_law
            ((refine step_append_lies _ (by rfl) _ _ _ (by rfl) 0 118 i0 _ 5 72 Tryz.underlying31 hi hz0 hz1 hz2 rfl (by omega) vN st.T.length (ncells st.T V) (by rfl) ((oN.alloc _).drew)
                ⟨wr.heap.size,0,none⟩ 1 1 [.int .u8 (k:Int),rv,.bool o,.slice pa ps.length pc,.int .i64 (z1:Int)] (by rfl) (by rfl) (World.news_of_block (cs:=#[.int .u8 (k:Int),rv,.bool o,.slice pa ps.length pc,.int .i64 (z1:Int)]) (t:=118) (fr:=(0,0)) (heap_alloc_new wr _)) hone
                (by omega) (by unfold maxLen;omega) (by omega) (by simp) (wr.heap.size + 1) (by simp) ?_;intro g2 cap2 w4 hn2 hg2 hat2 hlt2;have hb4:w4.heap[b]?=_:=(hg2.block b (by simp;omega) (fun e=>nb e.symm)).trans ((Below.heap_alloc _ _ _ (by omega)).trans HF.out.2.1.blk);have fb2':=free_blk hb4 5;have cb2':=cell_blk hb4 5 vN rfl;clear hb4))
          all_goals
            have hfin:=addN_fin ⟨k,rs,o,ps,z1⟩ rv (.slice pa ps.length pc) HA2.out.1 HA2.out.2.2.2 HF.out.2.1 HF.out.2.2.1 (((Kept.refl _ _).alloc _).drew) hg2 hn2 hat2 hlt2 HA2.out.2.1 HA2.out.2.2.1 hrS hpS
            rw [← HM.out] at hfin
            have HQ:Hid _:=hfin
            clear hfin hn2 hg2 hat2 HF HA2 oN c5 d0 d1 d2 d3 d4
            go_wp2
            go_ret
            exact ⟨ret_int (by omega),HQ.out⟩
end Rf
end Go.Proofs.YtpgcidpghmoibaaGreatDoor
