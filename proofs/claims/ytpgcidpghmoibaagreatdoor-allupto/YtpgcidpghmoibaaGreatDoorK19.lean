/-
  THE REFERENCE's RULES AS STATES
  WHAT RULES MATCH, without the program
  PLACES THAT FOLLOW PLACES, without the program
-/
import Derived.Test.YtpgcidpghmoibaaGreatDoorK18
import Derived.Test.YtpgcidpghmoibaaGreatDoorK13
import Derived.Test.YtpgcidpghmoibaaGreatDoorK03
namespace Go.Proofs.YtpgcidpghmoibaaGreatDoor
namespace Rf
open Go.RowKit
open G (PNode)
inductive AllR (T:List PNode):List Nat→List PState→List Nat→List Nat→List PState→List Nat→List Nat→Prop
  | nil {L B F}:AllR T [] L B F L B (F ++ [L.length])
  | cons {q qs L B F r L1 L' B' F'}:Md T (.node q) 0 L (.one r) L1→AllR T qs L1 (B ++ [r]) (F ++ [L.length]) L' B' F'→AllR T (q :: qs) L B F L' B' F'
def Made (b:Nat) (w:World) (T:List PNode) (Q:List Nat):Prop:=
  ∃ S M L B F,Sa w b S M T Q L B F∧AllR T Q [⟨-1,[]⟩] [] [] L B F∧∀ k,S k→b≤k
theorem Rd.sa {w:World} {b:Nat} {s:ByteArray} {S:Nat→Prop} {st:St} (h:Rd w b s S st):Sa w b S (fun k=>k=b) st.T st.rules [] [] []:=by
  obtain ⟨vN,vM,vR,V,A,hf,hl⟩:=h
  have nn:∀ k,(Value.slice none 0 0).ownBlock ≠ some k:=fun k e=>by simp [Value.ownBlock] at e
  have him:∀ k,ImmS vN vR V [] k→k ≠ b:=by
    rintro k (e | e | ⟨x,hx,e⟩ | ⟨v,hv,e⟩) e2
    · exact A.nbN (e2 ▸ e)
    · exact A.nbR (e2 ▸ e)
    · exact (A.imm x hx k e).1 e2
    · simp at hv
  refine ⟨_,vN,vR,.slice none 0 0,.slice none 0 0,.slice none 0 0,V,[],⟨A.ro,rfl,rfl,rfl,rfl,World.ownsRow_nil _ _ _ _,World.ownsRow_nil _ _ _ _,World.ownsRow_nil _ _ _ _,fun k x v hx=>by simp at hx,nn _,nn _,nn _,fun k e=>absurd e (nn k),fun k e=>absurd e (nn k),fun k e=>absurd e (nn k),fun k hk=>⟨him k hk,nn k,nn k,nn k⟩⟩,rfl,?_,hl,?_,fun k hk=>hk ▸ hf b (.inl rfl),fun k hk=>him k hk⟩
  · rintro k (e | e | e | e | e | e | ⟨x,hx,e⟩ | ⟨v,hv,e⟩)
    · exact hf k (.inl e)
    · exact absurd e (nn k)
    · exact absurd e (nn k)
    · exact absurd e (nn k)
    · exact hf k (.inr (.inl e))
    · exact hf k (.inr (.inr (.inr (.inl e))))
    · exact hf k (.inr (.inr (.inr (.inr ⟨x,hx,e⟩))))
    · simp at hv
  · rintro k (e | e | e | e)
    · exact e
    · exact absurd e (nn k)
    · exact absurd e (nn k)
    · exact absurd e (nn k)
set_option maxRecDepth 100000 in
set_option maxHeartbeats 2000000 in
theorem all_any (b:Nat) (s:ByteArray):AllAt b s (Made b):=by
  intro w S st hR hLo hT htl hQ hql hsz
  have hbw:=hR.inS.2
  obtain ⟨i0,hi,hz0,hz1,hz2⟩:=info_parts infoInt
  have hS:=hR.sa
  have hpls:=G.sizeOf_pls hT st.rules hQ hsz
  generalize st.T=T at *
  generalize st.rules=Q at *
  have hSt:=state_any w b S (fun k=>k=b) T Q [] [] [] hS ⟨-1,[]⟩ none 0 (World.ownsRow_nil _ _ _ _) (fun j e=>none_own j _ e) (by simp)
  go_enter Tryz.func83,Tryz.ntmps83
  go_wp2_with (go_at_call 113;refine hSt.mono ?_;rintro e w1 ⟨rfl,S1,M1,hS1,hE1,hn1⟩)
  have hn1':∀ j,S1 j→S j ∨ w.heap.size≤j:=fun j hj=>by
    rcases hn1 j hj with h | h | h
    · exact .inl h
    · exact none_own j _ h
    · exact .inr h
  go_loopw [2] (fun i wr=>∃ (j:Nat) (L:List PState) (B F:List Nat) (Sr Mr:Nat→Prop),j≤Q.length∧i=.int .i64 (j:Int)∧Sa wr b Sr Mr T Q L B F∧Evo w (fun k=>k=b) wr Mr∧(∀ k,Sr k→S k ∨ w.heap.size≤k)∧0 < L.length∧L.length + 4 * G.pls T (Q.drop j)≤1000∧B.length=j∧F.length=j∧∀ L' B' F',AllR T (Q.drop j) L B F L' B' F'→AllR T Q [⟨-1,[]⟩] [] [] L' B' F') (fun i _=>Q.length - (intOf i).toNat)
  case atStart=>exact ⟨0,[⟨-1,[]⟩],[],[],S1,M1,Nat.zero_le _,rfl,hS1,hE1,hn1',by simp,by rw [List.drop_zero,hpls];simp;omega,rfl,rfl,fun L' B' F' h=>by rw [List.drop_zero] at h;exact h⟩
  case round =>
    obtain ⟨j,L,B,F,Sr,Mr,hj,rfl,hSr,hEr,hnr,hL0,hLb,hBl,hFl,k1⟩:=hrel
    have HK:Hid _:=And.intro k1 (And.intro hBl hFl)
    have hFb:F.length≤50:=by omega
    have hBb:B.length≤50:=by omega
    clear k1 hBl hFl
    obtain ⟨cs,vN,vR,vS,vB,vF,V,W,A,hcs,hf,hlt,hM,hMS,hIM⟩:=id hSr
    obtain ⟨fa,fc,hfe⟩:=own_len A.oF
    obtain ⟨sa,sc,hse⟩:=own_len A.oS
    obtain ⟨qa,qc,hqe⟩:=own_len A.ro.oR
    subst hfe hse hqe
    have c7:=cell_blk A.ro.blk 7 _ A.ro.c7
    have c8:=cell_blk A.ro.blk 8 _ A.c8
    have c10:=cell_blk A.ro.blk 10 _ A.c10
    have oF:=A.oF
    have hbl:=lt_of_block A.ro.blk
    have HA:Hid _:=And.intro A (And.intro hcs (And.intro hf (And.intro hlt (And.intro hM (And.intro hMS hIM)))))
    clear A hcs hf hlt hM hMS hIM
    by_cases hlj:j < Q.length
    · have hqj:Q[j]?=some (Q[j]'hlj):=List.getElem?_eq_getElem _
      generalize Q[j]'_=q at hqj
      have hqT:=hQ q (List.mem_of_getElem? hqj)
      obtain ⟨hdr,hpt⟩:=pls_drop T Q j q hqj
      have HDR:Hid _:=hdr
      clear hdr
      go_wp2
      go_region_law
        ((refine step_append_lies _ (by rfl) _ _ _ (by rfl) 0 3 i0 _ 1 8 Tryz.underlying33 hi hz0 hz1 hz2 rfl (by omega) (.slice fa F.length fc) F.length (ints F) (by rfl) ((oF.alloc _).drew)
            ⟨wr.heap.size,0,none⟩ 1 1 [.int .i64 (L.length:Int)] (by rfl) (by rfl) (World.news_of_block (cs:=#[.int .i64 (L.length:Int)]) (t:=3) (fr:=(0,0)) (heap_alloc_new wr _)) (by simp [Value.oneCell'])
            (by omega) (by unfold maxLen;omega) (by omega) (by simp) (wr.heap.size + 1) (by simp) ?_;intro g2 cap2 w4 hn2 hg2 hat2 hlt2;have hb4:w4.heap[b]?=_:=(hg2.block b (by simp;omega) (fun e=>HA.out.1.nbF e.symm)).trans ((Below.heap_alloc _ _ _ hbl).trans HA.out.1.ro.blk);have fb2':=free_blk hb4 10;have cb2':=cell_blk hb4 10 _ HA.out.1.c10;clear hb4))
      all_goals
        obtain ⟨S5,M5,hS5,hE5,hn5⟩:=addF_fin L.length HA.out.1 HA.out.2.1 HA.out.2.2.1 HA.out.2.2.2.1 HA.out.2.2.2.2.1 HA.out.2.2.2.2.2.1 HA.out.2.2.2.2.2.2 (((Kept.refl _ _).alloc _).drew) hg2 hn2 (hat2.imp id (fun h=>by omega)) hlt2
        clear cb2' fb2' hn2 hg2 hat2 hlt2 HA oF c7 c8 c10 hbl
        generalize w4.setCell ⟨b,10,none⟩ (.slice (some ⟨g2,0,none⟩) (F.length + 1) cap2)=w5 at hS5 hE5 ⊢
        obtain ⟨cs5,vN5,vR5,vS5,vB5,vF5,V5,W5,A5,_,_,_,_,_,_⟩:=id hS5
        obtain ⟨gq,capq,hvq,_,_⟩:=A5.ro.oR.form (by omega)
        subst hvq
        have c7:=cell_blk A5.ro.blk 7 _ A5.ro.c7
        have cq:w5.cell? ⟨gq,j,none⟩=some (.int .i64 (q:Int)):=own_cell' A5.ro.oR j (by simp [ints,hqj])
        have hN:=made_any b T Q hT (by omega) q hqT w5 S5 M5 L B (F ++ [L.length]) 0 hS5 hL0 (by omega)
        clear A5
        go_wp2_with (first
          | (go_at_call 114
             refine hN.mono ?_
             rintro e w6 ⟨r6,L6,S6,M6,rfl,hmd,hS6,hE6,hn6⟩
             obtain ⟨cs6,vN6,vR6,vS6,vB6,vF6,V6,W6,A6,hcs6,hf6,hlt6,hM6,hMS6,hIM6⟩:=id hS6
             obtain ⟨ba,bc,hbe⟩:=own_len A6.oB
             subst hbe
             have c9:=cell_blk A6.ro.blk 9 _ A6.c9
             have hbl6:=lt_of_block A6.ro.blk)
          | (at_builtin
             refine wpList_append_lies _ rfl (.tmp 43) (.tmp 45) 33 rfl 0 3 i0 (.int .i64 0) 1 8 Tryz.underlying33 hi hz0 hz1 hz2 rfl (by decide) (.slice ba B.length bc) B.length (ints B) rfl (A6.oB.alloc _) ⟨w6.heap.size,0,none⟩ 1 1 [.int .i64 (r6:Int)] rfl rfl (cell_one_new _ _ _) (fun y hy=>by simp at hy;subst hy;rfl) (by decide) (by unfold maxLen;omega) (by omega) (by simp) (w6.heap.size + 1) (by simp) ?_
             intro g9 cap9 w9 hn9 hg9 hat9 hlt9
             have hb9:w9.heap[b]?=_:=(hg9.block b (by simp;omega) (fun e=>A6.nbB e.symm)).trans (blk_alloc _ A6.ro.blk)
             have cb9:=cell_blk hb9 9 _ A6.c9
             have fb9:=free_blk hb9 9
             have hfin:=addB_fin r6 A6 hcs6 hf6 hlt6 hM6 hMS6 hIM6 ((Kept.refl _ _).alloc _) hg9 hn9 (hat9.imp id (fun h=>by omega)) hlt9
             have HX:Hid _:=And.intro hfin (And.intro hmd (And.intro hE6 hn6))
             clear hfin hb9 hn9 hg9 hat9 hmd hE6 hn6 A6))
        go_roundw
        case rel =>
          obtain ⟨⟨S9,M9,hS9,hE9,hn9⟩,hmd,hE6,hn6⟩:=HX.out
          have hfm:=hmd.fine hT (by show q < T.length;omega) hL0
          have hsl:=sl_ge T q
          have hb6:L6.length + (MT.node q).sl T≤L.length + 4 * G.pl T q:=hfm.2.2.1
          have hz5:=hE5.kept.size
          have hz6:=hE6.kept.size
          have hzr:=hEr.kept.size
          refine ⟨j + 1,L6,B ++ [r6],F ++ [L.length],S9,M9,by omega,by go_num,hS9,((hEr.trans hE5).trans hE6).trans hE9,fun k hk=>?_,by omega,by omega,by simp [HK.out.2.1],by simp [HK.out.2.2],fun L' B' F' h=>HK.out.1 L' B' F' (by rw [HDR.out];exact AllR.cons hmd h)⟩
          rcases hn9 k hk with h | h
          · rcases hn6 k h with h | h
            · rcases hn5 k h with h | h
              · exact hnr k h
              · exact .inr (by omega)
            · exact .inr (by omega)
          · exact .inr (by omega)
        case measure=>simp [intOf];omega
    · have e:j=Q.length:=by omega
      have hal:AllR T Q [⟨-1,[]⟩] [] [] L B (F ++ [L.length]):=HK.out.1 _ _ _ (by rw [e,List.drop_length];exact AllR.nil)
      have HAL:Hid _:=hal
      clear hal e
      go_wp2
      go_region_law
        ((refine step_append_lies _ (by rfl) _ _ _ (by rfl) 0 3 i0 _ 1 8 Tryz.underlying33 hi hz0 hz1 hz2 rfl (by omega) (.slice fa F.length fc) F.length (ints F) (by rfl) ((oF.alloc _).drew)
            ⟨wr.heap.size,0,none⟩ 1 1 [.int .i64 (L.length:Int)] (by rfl) (by rfl) (World.news_of_block (cs:=#[.int .i64 (L.length:Int)]) (t:=3) (fr:=(0,0)) (heap_alloc_new wr _)) (by simp [Value.oneCell'])
            (by omega) (by unfold maxLen;omega) (by omega) (by simp) (wr.heap.size + 1) (by simp) ?_;intro g2 cap2 w4 hn2 hg2 hat2 hlt2;have hb4:w4.heap[b]?=_:=(hg2.block b (by simp;omega) (fun e=>HA.out.1.nbF e.symm)).trans ((Below.heap_alloc _ _ _ hbl).trans HA.out.1.ro.blk);have fb2':=free_blk hb4 10;have cb2':=cell_blk hb4 10 _ HA.out.1.c10;clear hb4))
      all_goals
        obtain ⟨S5,M5,hS5,hE5,hn5⟩:=addF_fin L.length HA.out.1 HA.out.2.1 HA.out.2.2.1 HA.out.2.2.2.1 HA.out.2.2.2.2.1 HA.out.2.2.2.2.2.1 HA.out.2.2.2.2.2.2 (((Kept.refl _ _).alloc _).drew) hg2 hn2 (hat2.imp id (fun h=>by omega)) hlt2
        clear cb2' fb2' hn2 hg2 hat2 hlt2 HA oF c7 c8 c10 hbl
        go_wp2
        go_end0
        have hEa:=hEr.trans hE5
        exact ⟨rfl,⟨S5,M5,L,B,_,hS5,HAL.out,fun k hk=>by
          have hz5:=hEr.kept.size
          rcases hn5 k hk with h | h
          · rcases hnr k h with h | h
            · exact hLo k h
            · omega
          · omega⟩,M5,⟨hEa.kept.mono (fun k _ hn e=>hn (by rw [e];exact hR.inS.1)),fun k hk=>(hEa.new k hk).imp (fun e=>by rw [e];exact hR.inS.1) id⟩⟩
theorem comp_whole (w:World) (s:ByteArray) (hs:s.size≤2000):Calls Tryz.prog 53 #[.string s] w fun e w'=>CompPost w s (Made w.heap.size) e w':=
  comp_any w s (Made w.heap.size) hs (all_any w.heap.size s)
end Rf
end Go.Proofs.YtpgcidpghmoibaaGreatDoor

namespace Go.Proofs.YtpgcidpghmoibaaGreatDoor
namespace G
abbrev Lang:=List Int→Prop
def Lang.eps:Lang:=fun u=>u=[]
def Lang.none:Lang:=fun _=>False
def Lang.cat (A B:Lang):Lang:=fun w=>∃ u v,w=u ++ v∧A u∧B v
inductive Lang.star (A:Lang):Lang
  | nil:Lang.star A []
  | cons {u v}:A u→Lang.star A v→Lang.star A (u ++ v)
def Lang.opt (A:Lang):Lang:=fun u=>u=[] ∨ A u
def Lang.plus (A:Lang):Lang:=Lang.cat A (Lang.star A)
def Lang.seq:List Lang→Lang
  | []=>Lang.eps
  | A :: l=>Lang.cat A (Lang.seq l)
def Lang.alt:List Lang→Lang
  | []=>Lang.none
  | A :: l=>fun u=>A u ∨ Lang.alt l u
def Lang.one (x:PNode):Lang:=fun u=>∃ c,u=[c]∧inV x c=true
def Lang.rep (k:Nat) (A:Lang):Lang:=if k=63 then Lang.opt A else if k=43 then Lang.plus A else Lang.star A
theorem Lang.ext {A B:Lang} (h:∀ u,A u ↔ B u):A=B:=funext fun u=>propext (h u)
theorem Lang.cat_eps (A:Lang):Lang.cat A Lang.eps=A:=Lang.ext fun u=>by
  constructor
  · rintro ⟨x,y,rfl,h,rfl⟩;simpa using h
  · intro h;exact ⟨u,[],by simp,h,rfl⟩
theorem Lang.eps_cat (A:Lang):Lang.cat Lang.eps A=A:=Lang.ext fun u=>by
  constructor
  · rintro ⟨x,y,rfl,rfl,h⟩;simpa using h
  · intro h;exact ⟨[],u,by simp,rfl,h⟩
theorem Lang.cat_assoc (A B C:Lang):Lang.cat (Lang.cat A B) C=Lang.cat A (Lang.cat B C):=Lang.ext fun u=>by
  constructor
  · rintro ⟨x,y,rfl,⟨p,q,rfl,h1,h2⟩,h3⟩;exact ⟨p,q ++ y,by simp,h1,q,y,rfl,h2,h3⟩
  · rintro ⟨x,y,rfl,h1,p,q,rfl,h2,h3⟩;exact ⟨x ++ p,q,by simp,⟨x,p,rfl,h1,h2⟩,h3⟩
theorem Lang.seq_append:∀ (l m:List Lang),Lang.seq (l ++ m)=Lang.cat (Lang.seq l) (Lang.seq m)
  | [],m=>(Lang.eps_cat _).symm
  | A :: l,m=>by simp only [List.cons_append,Lang.seq,Lang.seq_append l m,Lang.cat_assoc]
theorem Lang.seq_one (A:Lang):Lang.seq [A]=A:=Lang.cat_eps A
theorem Lang.alt_one (A:Lang):Lang.alt [A]=A:=Lang.ext fun u=>by simp [Lang.alt,Lang.none]
theorem Lang.star_one {A:Lang} {u:List Int} (h:A u):Lang.star A u:=by simpa using Lang.star.cons h (.nil)
theorem Lang.star_append {A:Lang} {u v:List Int} (h:Lang.star A u) (g:Lang.star A v):Lang.star A (u ++ v):=by
  induction h with
  | nil=>simpa using g
  | cons ha _ ih=>rw [List.append_assoc];exact .cons ha ih
theorem Lang.star_mono {A B:Lang} (h:∀ u,A u→B u) {u:List Int} (g:Lang.star A u):Lang.star B u:=by
  induction g with
  | nil=>exact .nil
  | cons ha _ ih=>exact .cons (h _ ha) ih
theorem Lang.star_star {A:Lang} {u:List Int} (h:Lang.star (Lang.star A) u):Lang.star A u:=by
  induction h with
  | nil=>exact .nil
  | cons ha _ ih=>exact Lang.star_append ha ih
theorem Lang.plus_star {A:Lang} {u:List Int} (h:Lang.plus A u):Lang.star A u:=by
  obtain ⟨x,y,rfl,h1,h2⟩:=h
  exact .cons h1 h2
theorem Lang.star_plus {A:Lang} {u:List Int} (h:Lang.star A u):u=[] ∨ Lang.plus A u:=by
  cases h with
  | nil=>exact .inl rfl
  | cons ha hs=>exact .inr ⟨_,_,rfl,ha,hs⟩
theorem Lang.rep_star {k:Nat} {A:Lang} {u:List Int} (h:Lang.rep k A u):Lang.star A u:=by
  unfold Lang.rep at h
  split at h
  · rcases h with rfl | h
    · exact .nil
    · exact Lang.star_one h
  · split at h
    · exact Lang.plus_star h
    · exact h
theorem Lang.rep_of {k:Nat} {A:Lang} {u:List Int} (h:A u):Lang.rep k A u:=by
  unfold Lang.rep
  split
  · exact .inr h
  · split
    · exact ⟨u,[],by simp,h,.nil⟩
    · exact Lang.star_one h
theorem Lang.rep_rep {k k':Nat} (h:k=42 ∨ k=43 ∨ k=63) (h':k'=42 ∨ k'=43 ∨ k'=63) (A:Lang):Lang.rep k (Lang.rep k' A)=Lang.rep (mix k k') A:=by
  have star42:∀ B,Lang.rep 42 B=Lang.star B:=fun B=>rfl
  have plus43:∀ B,Lang.rep 43 B=Lang.plus B:=fun B=>rfl
  have opt63:∀ B,Lang.rep 63 B=Lang.opt B:=fun B=>rfl
  have plusin:∀ {B:Lang} {u:List Int},B u→Lang.plus B u:=fun {B u} h=>⟨u,[],by simp,h,.nil⟩
  have big:∀ u,Lang.rep k (Lang.rep k' A) u→Lang.star A u:=fun u h=>Lang.star_star (Lang.star_mono (fun _ h=>Lang.rep_star h) (Lang.rep_star h))
  unfold mix
  split
  · rename_i e
    subst e
    apply Lang.ext
    intro u
    rcases h with rfl | rfl | rfl
    · exact ⟨big u,fun h=>Lang.rep_of h⟩
    · rw [plus43,plus43]
      constructor
      · rintro ⟨x,y,rfl,⟨p,q,rfl,h1,h2⟩,h3⟩
        exact ⟨p,q ++ y,by simp,h1,Lang.star_append h2 (Lang.star_star (Lang.star_mono (fun _ h=>Lang.plus_star h) h3))⟩
      · intro h;exact plusin h
    · rw [opt63,opt63]
      constructor
      · rintro (rfl | rfl | h)
        · exact .inl rfl
        · exact .inl rfl
        · exact .inr h
      · intro h;exact .inr h
  · rename_i e
    apply Lang.ext
    intro u
    rw [star42]
    refine ⟨big u,fun hst=>?_⟩
    have starout:∀ {B:Lang},(∀ v,A v→B v)→Lang.star B u:=fun hB=>Lang.star_mono hB hst
    rcases h with rfl | rfl | rfl <;> rcases h' with rfl | rfl | rfl
    all_goals first
      | exact absurd rfl e
      | (rw [star42];exact starout (fun v hv=>Lang.rep_of hv))
      | skip
    · rw [plus43];exact plusin (by rw [star42];exact ‹Lang.star A u›)
    · rw [plus43]
      rcases Lang.star_plus ‹Lang.star A u› with rfl | ⟨x,y,rfl,h1,h2⟩
      · exact plusin (by rw [opt63];exact .inl rfl)
      · exact ⟨x,y,rfl,by rw [opt63];exact .inr h1,Lang.star_mono (fun v hv=>by rw [opt63];exact .inr hv) h2⟩
    · rw [opt63];exact .inr (by rw [star42];exact ‹Lang.star A u›)
    · rw [opt63]
      rcases Lang.star_plus ‹Lang.star A u› with rfl | h
      · exact .inl rfl
      · exact .inr (by rw [plus43];exact h)
def langF (T:List PNode):Nat→Nat→Lang
  | 0,_=>Lang.none
  | f + 1,n=>match T[n]? with
    | some x=>if x.kind=115 then Lang.one x else if x.kind=113 then Lang.seq (x.parts.map (langF T f)) else if x.kind=99 then Lang.alt (x.parts.map (langF T f)) else Lang.rep x.kind (langF T f (x.parts.headD 0))
    | none=>Lang.none
theorem langF_fuel {T:List PNode} (hT:WF T):∀ (n f g:Nat),n < f→n < g→langF T f n=langF T g n:=by
  intro n
  induction n using Nat.strongRecOn with
  | ind n ih =>
    intro f g hf hg
    match f,g,hf,hg with
    | f + 1,g + 1,hf,hg =>
      cases hx:T[n]? with
      | none=>simp [langF,hx]
      | some x =>
        simp only [langF,hx]
        have hps:=(hT n x hx).parts
        have hm:x.parts.map (langF T f)=x.parts.map (langF T g):=List.map_congr_left fun p hp=>ih p (hps p hp) f g (by have:=hps p hp;omega) (by have:=hps p hp;omega)
        by_cases h1:x.kind=115
        · rw [if_pos h1,if_pos h1]
        · rw [if_neg h1,if_neg h1]
          by_cases h2:x.kind=113
          · rw [if_pos h2,if_pos h2,hm]
          · rw [if_neg h2,if_neg h2]
            by_cases h3:x.kind=99
            · rw [if_pos h3,if_pos h3,hm]
            · rw [if_neg h3,if_neg h3]
              have hk:x.parts.length=1:=by
                rcases (hT n x hx).kind with ⟨k,_⟩ | ⟨k,_⟩ | ⟨_,k⟩
                · omega
                · omega
                · exact k
              obtain ⟨p,hp⟩:=List.length_eq_one_iff.1 hk
              rw [hp]
              have:=hps p (by rw [hp];simp)
              show Lang.rep _ (langF T f p)=Lang.rep _ (langF T g p)
              rw [ih p this f g (by omega) (by omega)]
def lang (T:List PNode) (n:Nat):Lang:=langF T (n + 1) n
theorem lang_step {T:List PNode} (hT:WF T) {n:Nat} {x:PNode} (hx:T[n]?=some x):lang T n =
    if x.kind=115 then Lang.one x else if x.kind=113 then Lang.seq (x.parts.map (lang T)) else if x.kind=99 then Lang.alt (x.parts.map (lang T)) else Lang.rep x.kind (lang T (x.parts.headD 0)):=by
  have hps:=(hT n x hx).parts
  have hm:x.parts.map (langF T n)=x.parts.map (lang T):=List.map_congr_left fun p hp=>langF_fuel hT p _ _ (hps p hp) (Nat.lt_succ_self _)
  rw [lang]
  simp only [langF,hx,hm]
  by_cases h1:x.kind=115
  · rw [if_pos h1,if_pos h1]
  · rw [if_neg h1,if_neg h1]
    by_cases h2:x.kind=113
    · rw [if_pos h2,if_pos h2]
    · rw [if_neg h2,if_neg h2]
      by_cases h3:x.kind=99
      · rw [if_pos h3,if_pos h3]
      · rw [if_neg h3,if_neg h3]
        have hk:x.parts.length=1:=by
          rcases (hT n x hx).kind with ⟨k,_⟩ | ⟨k,_⟩ | ⟨_,k⟩
          · omega
          · omega
          · exact k
        obtain ⟨p,hp⟩:=List.length_eq_one_iff.1 hk
        rw [hp]
        show Lang.rep _ (langF T n p)=Lang.rep _ (lang T p)
        rw [lang,langF_fuel hT p _ _ (hps p (by rw [hp];simp)) (Nat.lt_succ_self _)]
theorem lang_set {T:List PNode} (hT:WF T) {n:Nat} {x:PNode} (hx:T[n]?=some x) (h:x.kind=115):lang T n=Lang.one x:=by rw [lang_step hT hx,if_pos h]
theorem lang_seq {T:List PNode} (hT:WF T) {n:Nat} {x:PNode} (hx:T[n]?=some x) (h:x.kind=113):lang T n=Lang.seq (x.parts.map (lang T)):=by rw [lang_step hT hx,if_neg (by omega),if_pos h]
theorem lang_alt {T:List PNode} (hT:WF T) {n:Nat} {x:PNode} (hx:T[n]?=some x) (h:x.kind=99):lang T n=Lang.alt (x.parts.map (lang T)):=by rw [lang_step hT hx,if_neg (by omega),if_neg (by omega),if_pos h]
theorem lang_rep {T:List PNode} (hT:WF T) {n p:Nat} {x:PNode} (hx:T[n]?=some x) (h:reps x=true) (hp:x.parts=[p]):lang T n=Lang.rep x.kind (lang T p):=by
  simp only [reps,Bool.or_eq_true,decide_eq_true_eq] at h
  rw [lang_step hT hx,if_neg (by omega),if_neg (by omega),if_neg (by omega),hp]
  rfl
theorem lang_lone {T:List PNode} (hT:WF T) {n p:Nat} {x:PNode} (hx:T[n]?=some x) (h:lone x=true) (hp:x.parts=[p]):lang T n=lang T p:=by
  simp only [lone,Bool.and_eq_true,Bool.or_eq_true,decide_eq_true_eq] at h
  rcases h.1 with k | k
  · rw [lang_seq hT hx k,hp];exact Lang.seq_one _
  · rw [lang_alt hT hx k,hp];exact Lang.alt_one _
theorem lang_bare {T:List PNode} (hT:WF T):∀ (n:Nat),lang T (bare T n)=lang T n:=by
  intro n
  induction n using Nat.strongRecOn with
  | ind n ih =>
    cases hx:T[n]? with
    | none=>simp [bare,bareF,hx]
    | some x =>
      cases hl:lone x with
      | false=>rw [bare_end hx hl]
      | true =>
        obtain ⟨p,hp⟩:=lone_head hl
        rw [bare_step hT hx hl hp,ih p ((hT n x hx).parts p (by rw [hp];simp)),lang_lone hT hx hl hp]
theorem reps_kind {x:PNode} (h:reps x=true):x.kind=42 ∨ x.kind=43 ∨ x.kind=63:=by
  simp only [reps,Bool.or_eq_true,decide_eq_true_eq] at h
  omega
theorem mix_kind {k k':Nat} (h:k=42 ∨ k=43 ∨ k=63):mix k k'=42 ∨ mix k k'=43 ∨ mix k k'=63:=by
  unfold mix
  split
  · exact h
  · exact .inl rfl
theorem lang_reps {T:List PNode} (hT:WF T):∀ (n k:Nat),(k=42 ∨ k=43 ∨ k=63)→Lang.rep (rep T k n).1 (lang T (rep T k n).2)=Lang.rep k (lang T n)∧((rep T k n).1=42 ∨ (rep T k n).1=43 ∨ (rep T k n).1=63):=by
  intro n
  induction n using Nat.strongRecOn with
  | ind n ih =>
    intro k hk
    cases hx:T[n]? with
    | none =>
      have e:rep T k n=(k,n):=by simp [rep,repF,hx]
      rw [e];exact ⟨rfl,hk⟩
    | some x =>
      cases hl:reps x with
      | false=>rw [rep_end hx hl];exact ⟨rfl,hk⟩
      | true =>
        obtain ⟨p,hp,hpn⟩:=reps_one hT hx hl
        have hb:=bare_le hT p
        rw [rep_step hT hx hl hp]
        have ih':=ih (bare T p) (by omega) (mix k x.kind) (mix_kind hk)
        rw [lang_bare hT p] at ih'
        rw [ih'.1,lang_rep hT hx hl hp,Lang.rep_rep hk (reps_kind hl)]
        exact ⟨rfl,ih'.2⟩
end G
end Go.Proofs.YtpgcidpghmoibaaGreatDoor

namespace Go.Proofs.YtpgcidpghmoibaaGreatDoor
namespace G
inductive Pth (t:Nat→Int→Prop) (B:Nat→Nat→Prop):Nat→List Int→Nat→Prop
  | one {i c}:t i c→Pth t B i [c] i
  | cons {i j c u e}:t i c→B i j→Pth t B j u e→Pth t B i (c :: u) e
variable {t t':Nat→Int→Prop} {B B' B1 B2:Nat→Nat→Prop}
theorem Pth.ne {i:Nat} {u:List Int} {e:Nat} (h:Pth t B i u e):u ≠ []:=by cases h <;> simp
theorem Pth.join {i:Nat} {u:List Int} {j:Nat} (h:Pth t B i u j) {k:Nat} (hb:B j k) {v:List Int} {e:Nat} (g:Pth t B k v e):Pth t B i (u ++ v) e:=by
  induction h with
  | one ht=>exact .cons ht hb g
  | cons ht hb' _ ih=>exact .cons ht hb' (ih hb)
theorem Pth.inside {lo hi:Nat} (ht:∀ i c,lo≤i→i < hi→t i c→t' i c) (hB:∀ i j,lo≤i→i < hi→B i j→B' i j∧lo≤j∧j < hi) {i:Nat} {u:List Int} {e:Nat} (h:Pth t B i u e):lo≤i→i < hi→Pth t' B' i u e∧lo≤e∧e < hi:=by
  induction h with
  | one h1=>intro a b;exact ⟨.one (ht _ _ a b h1),a,b⟩
  | cons h1 h2 _ ih =>
    intro a b
    obtain ⟨g1,g2,g3⟩:=hB _ _ a b h2
    obtain ⟨i1,i2,i3⟩:=ih g2 g3
    exact ⟨.cons (ht _ _ a b h1) g1 i1,i2,i3⟩
structure Gl (t:Nat→Int→Prop) (B:Nat→Nat→Prop) (F L:Nat→Prop) (e:Prop) (lo hi:Nat) (A:Lang):Prop where
  le:lo≤hi
  fr:∀ i,F i→lo≤i∧i < hi
  lr:∀ i,L i→lo≤i∧i < hi
  br:∀ i j,lo≤i→i < hi→B i j→lo≤j∧j < hi
  nil:A [] ↔ e
  some:∀ u,u ≠ []→(A u ↔ ∃ i j,F i∧L j∧Pth t B i u j)
variable {F L F1 F2 L1 L2 F' L':Nat→Prop} {e e1 e2 e':Prop} {lo mid hi:Nat} {A A1 A2:Lang}
theorem Gl.congr (g:Gl t B F L e lo hi A) (ht:∀ i c,lo≤i→i < hi→(t i c ↔ t' i c)) (hB:∀ i j,lo≤i→i < hi→(B i j ↔ B' i j)) (hF:∀ i,F i ↔ F' i) (hL:∀ i,L i ↔ L' i) (he:e ↔ e'):Gl t' B' F' L' e' lo hi A where
  le:=g.le
  fr i h:=g.fr i ((hF i).2 h)
  lr i h:=g.lr i ((hL i).2 h)
  br i j h1 h2 h:=g.br i j h1 h2 ((hB i j h1 h2).2 h)
  nil:=g.nil.trans he
  some u hu:=by
    rw [g.some u hu]
    constructor
    · rintro ⟨i,j,h1,h2,h3⟩
      obtain ⟨a,b⟩:=g.fr i h1
      exact ⟨i,j,(hF i).1 h1,(hL j).1 h2,(h3.inside (fun i c a b h=>(ht i c a b).1 h) (fun i j a b h=>⟨(hB i j a b).1 h,g.br i j a b h⟩) a b).1⟩
    · rintro ⟨i,j,h1,h2,h3⟩
      obtain ⟨a,b⟩:=g.fr i ((hF i).2 h1)
      exact ⟨i,j,(hF i).2 h1,(hL j).2 h2,(h3.inside (fun i c a b h=>(ht i c a b).2 h) (fun i j a b h=>⟨(hB i j a b).2 h,g.br i j a b ((hB i j a b).2 h)⟩) a b).1⟩
theorem Gl.eps (lo:Nat):Gl t B (fun _=>False) (fun _=>False) True lo lo Lang.eps where
  le:=Nat.le_refl _
  fr _ h:=h.elim
  lr _ h:=h.elim
  br i j h1 h2 _:=by omega
  nil:=by simp [Lang.eps]
  some u hu:=by
    constructor
    · intro h;exact absurd h hu
    · rintro ⟨_,_,h,_⟩;exact h.elim
theorem Gl.void (lo:Nat):Gl t B (fun _=>False) (fun _=>False) False lo lo Lang.none where
  le:=Nat.le_refl _
  fr _ h:=h.elim
  lr _ h:=h.elim
  br i j h1 h2 _:=by omega
  nil:=Iff.rfl
  some u hu:=by
    constructor
    · intro h;exact h.elim
    · rintro ⟨_,_,h,_⟩;exact h.elim
theorem Gl.place {x:PNode} {k:Nat} (ht:∀ c,t k c ↔ inV x c=true) (hB:∀ j,¬ B k j):Gl t B (fun i=>i=k) (fun i=>i=k) False k (k + 1) (Lang.one x) where
  le:=Nat.le_succ _
  fr i h:=by omega
  lr i h:=by omega
  br i j h1 h2 h:=by
    have:i=k:=by omega
    subst this
    exact absurd h (hB j)
  nil:=by simp [Lang.one]
  some u hu:=by
    constructor
    · rintro ⟨c,rfl,hc⟩
      exact ⟨k,k,rfl,rfl,.one ((ht c).2 hc)⟩
    · rintro ⟨i,j,rfl,rfl,h⟩
      cases h with
      | one h=>exact ⟨_,rfl,(ht _).1 h⟩
      | cons _ h _=>exact absurd h (hB _)
theorem Gl.opt (g:Gl t B F L e lo hi A):Gl t B F L True lo hi (Lang.opt A) where
  le:=g.le
  fr:=g.fr
  lr:=g.lr
  br:=g.br
  nil:=by simp [Lang.opt]
  some u hu:=by
    rw [← g.some u hu]
    simp [Lang.opt,hu]
theorem Gl.alt (g1:Gl t B1 F1 L1 e1 lo mid A1) (g2:Gl t B2 F2 L2 e2 mid hi A2) (h1:∀ i j,lo≤i→i < mid→(B i j ↔ B1 i j)) (h2:∀ i j,mid≤i→i < hi→(B i j ↔ B2 i j)) :
    Gl t B (fun i=>F1 i ∨ F2 i) (fun i=>L1 i ∨ L2 i) (e1 ∨ e2) lo hi (fun u=>A1 u ∨ A2 u):=by
  have k1:=g1.congr (fun _ _ _ _=>Iff.rfl) (fun i j a b=>(h1 i j a b).symm) (fun _=>Iff.rfl) (fun _=>Iff.rfl) Iff.rfl
  have k2:=g2.congr (fun _ _ _ _=>Iff.rfl) (fun i j a b=>(h2 i j a b).symm) (fun _=>Iff.rfl) (fun _=>Iff.rfl) Iff.rfl
  have l1:=k1.le
  have l2:=k2.le
  refine { le:=by omega,fr:=?_,lr:=?_,br:=?_,nil:=by rw [k1.nil,k2.nil],some:=?_ }
  · rintro i (h | h)
    · have:=k1.fr i h;omega
    · have:=k2.fr i h;omega
  · rintro i (h | h)
    · have:=k1.lr i h;omega
    · have:=k2.lr i h;omega
  · intro i j a b h
    rcases Nat.lt_or_ge i mid with c | c
    · have:=k1.br i j a c h;omega
    · have:=k2.br i j c b h;omega
  · intro u hu
    rw [k1.some u hu,k2.some u hu]
    constructor
    · rintro (⟨i,j,a,b,c⟩ | ⟨i,j,a,b,c⟩)
      · exact ⟨i,j,.inl a,.inl b,c⟩
      · exact ⟨i,j,.inr a,.inr b,c⟩
    · rintro ⟨i,j,a,b,c⟩
      rcases a with a | a
      · have ha:=k1.fr i a
        have hj:=(c.inside (fun _ _ _ _ h=>h) (fun i j a b h=>⟨h,k1.br i j a b h⟩) ha.1 ha.2).2
        rcases b with b | b
        · exact .inl ⟨i,j,a,b,c⟩
        · have:=k2.lr j b;omega
      · have ha:=k2.fr i a
        have hj:=(c.inside (fun _ _ _ _ h=>h) (fun i j a b h=>⟨h,k2.br i j a b h⟩) ha.1 ha.2).2
        rcases b with b | b
        · have:=k1.lr j b;omega
        · exact .inr ⟨i,j,a,b,c⟩
theorem Gl.cat (g1:Gl t B1 F1 L1 e1 lo mid A1) (g2:Gl t B2 F2 L2 e2 mid hi A2) (h1:∀ i j,lo≤i→i < mid→(B i j ↔ B1 i j ∨ (L1 i∧F2 j))) (h2:∀ i j,mid≤i→i < hi→(B i j ↔ B2 i j)) :
    Gl t B (fun i=>F1 i ∨ (e1∧F2 i)) (fun i=>L2 i ∨ (e2∧L1 i)) (e1∧e2) lo hi (Lang.cat A1 A2):=by
  have l1:=g1.le
  have l2:=g2.le
  have up1:∀ {i u j},Pth t B1 i u j→lo≤i→i < mid→Pth t B i u j∧lo≤j∧j < mid:=fun p a b=>p.inside (fun _ _ _ _ h=>h) (fun i j a b h=>⟨(h1 i j a b).2 (.inl h),g1.br i j a b h⟩) a b
  have up2:∀ {i u j},Pth t B2 i u j→mid≤i→i < hi→Pth t B i u j∧mid≤j∧j < hi:=fun p a b=>p.inside (fun _ _ _ _ h=>h) (fun i j a b h=>⟨(h2 i j a b).2 h,g2.br i j a b h⟩) a b
  have dn2:∀ {i u j},Pth t B i u j→mid≤i→i < hi→Pth t B2 i u j∧mid≤j∧j < hi:=fun p a b=>p.inside (fun _ _ _ _ h=>h) (fun i j a b h=>⟨(h2 i j a b).1 h,g2.br i j a b ((h2 i j a b).1 h)⟩) a b
  have split:∀ {i u j},Pth t B i u j→lo≤i→i < mid→(Pth t B1 i u j∧j < mid) ∨ ∃ u1 u2 a b,u=u1 ++ u2∧Pth t B1 i u1 a∧L1 a∧F2 b∧Pth t B2 b u2 j∧mid≤j:=by
    intro i u j p
    induction p with
    | one h=>intro _ b;exact .inl ⟨.one h,b⟩
    | @cons i k c u e h hb p ih =>
      intro a b
      rcases (h1 i k a b).1 hb with hb | ⟨hb1,hb2⟩
      · have hk:=g1.br i k a b hb
        rcases ih hk.1 hk.2 with ⟨p1,hj⟩ | ⟨u1,u2,x,y,rfl,p1,hx,hy,p2,hj⟩
        · exact .inl ⟨.cons h hb p1,hj⟩
        · exact .inr ⟨c :: u1,u2,x,y,rfl,.cons h hb p1,hx,hy,p2,hj⟩
      · have hk:=g2.fr k hb2
        have p2:=dn2 p hk.1 hk.2
        exact .inr ⟨[c],u,i,k,rfl,.one h,hb1,hb2,p2.1,p2.2.1⟩
  refine { le:=by omega,fr:=?_,lr:=?_,br:=?_,nil:=?_,some:=?_ }
  · rintro i (h | h)
    · have:=g1.fr i h;omega
    · have:=g2.fr i h.2;omega
  · rintro i (h | h)
    · have:=g2.lr i h;omega
    · have:=g1.lr i h.2;omega
  · intro i j a b h
    rcases Nat.lt_or_ge i mid with c | c
    · rcases (h1 i j a c).1 h with h | ⟨_,h⟩
      · have:=g1.br i j a c h;omega
      · have:=g2.fr j h;omega
    · have:=g2.br i j c b ((h2 i j c b).1 h);omega
  · rw [← g1.nil,← g2.nil]
    constructor
    · rintro ⟨u,v,h,hu,hv⟩
      have:u=[]∧v=[]:=by simpa using h.symm
      obtain ⟨rfl,rfl⟩:=this
      exact ⟨hu,hv⟩
    · rintro ⟨hu,hv⟩;exact ⟨[],[],rfl,hu,hv⟩
  · intro w hw
    constructor
    · rintro ⟨u,v,rfl,hu,hv⟩
      by_cases e1':u=[]
      · subst e1'
        have hv':v ≠ []:=by simpa using hw
        obtain ⟨i,j,a,b,p⟩:=(g2.some v hv').1 hv
        have hi':=g2.fr i a
        exact ⟨i,j,.inr ⟨g1.nil.1 hu,a⟩,.inl b,(up2 p hi'.1 hi'.2).1⟩
      · obtain ⟨i,j,a,b,p⟩:=(g1.some u e1').1 hu
        have hi':=g1.fr i a
        have hj:=g1.lr j b
        have p1:=(up1 p hi'.1 hi'.2).1
        by_cases e2':v=[]
        · subst e2'
          exact ⟨i,j,.inl a,.inr ⟨g2.nil.1 hv,b⟩,by simpa using p1⟩
        · obtain ⟨x,y,c,d,q⟩:=(g2.some v e2').1 hv
          have hx:=g2.fr x c
          exact ⟨i,y,.inl a,.inl d,p1.join ((h1 j x hj.1 hj.2).2 (.inr ⟨b,c⟩)) (up2 q hx.1 hx.2).1⟩
    · rintro ⟨i,j,a,b,p⟩
      rcases a with a | ⟨a0,a⟩
      · have ha:=g1.fr i a
        rcases split p ha.1 ha.2 with ⟨p1,hj⟩ | ⟨u1,u2,x,y,rfl,p1,hx,hy,p2,hj⟩
        · rcases b with b | ⟨b0,b⟩
          · have:=g2.lr j b;omega
          · exact ⟨w,[],by simp,(g1.some w hw).2 ⟨i,j,a,b,p1⟩,g2.nil.2 b0⟩
        · rcases b with b | ⟨b0,b⟩
          · exact ⟨u1,u2,rfl,(g1.some u1 p1.ne).2 ⟨i,x,a,hx,p1⟩,(g2.some u2 p2.ne).2 ⟨y,j,hy,b,p2⟩⟩
          · have:=g1.lr j b;omega
      · have ha:=g2.fr i a
        have p2:=dn2 p ha.1 ha.2
        rcases b with b | ⟨b0,b⟩
        · exact ⟨[],w,rfl,g1.nil.2 a0,(g2.some w hw).2 ⟨i,j,a,b,p2.1⟩⟩
        · have:=g1.lr j b;omega
theorem Gl.loop (g:Gl t B1 F L e lo hi A) (hB:∀ i j,lo≤i→i < hi→(B i j ↔ B1 i j ∨ (L i∧F j))) (u:List Int) (hu:u ≠ []):Lang.star A u ↔ ∃ i j,F i∧L j∧Pth t B i u j:=by
  have up:∀ {i u j},Pth t B1 i u j→lo≤i→i < hi→Pth t B i u j∧lo≤j∧j < hi:=fun p a b=>p.inside (fun _ _ _ _ h=>h) (fun i j a b h=>⟨(hB i j a b).2 (.inl h),g.br i j a b h⟩) a b
  constructor
  · intro h
    have:u ≠ []→∃ i j,F i∧L j∧Pth t B i u j:=by
      clear hu
      induction h with
      | nil=>intro h;exact absurd rfl h
      | @cons u v hA _ ih =>
        intro hw
        by_cases e1':u=[]
        · subst e1'
          have hv':v ≠ []:=by simpa using hw
          simpa using ih hv'
        · obtain ⟨i,j,a,b,p⟩:=(g.some u e1').1 hA
          have hi':=g.fr i a
          have hj:=g.lr j b
          have p1:=(up p hi'.1 hi'.2).1
          by_cases e2':v=[]
          · subst e2'
            exact ⟨i,j,a,b,by simpa using p1⟩
          · obtain ⟨x,y,c,d,q⟩:=ih e2'
            exact ⟨i,y,a,d,p1.join ((hB j x hj.1 hj.2).2 (.inr ⟨b,c⟩)) q⟩
    exact this hu
  · rintro ⟨i,j,a,b,p⟩
    have key:∀ {i u j},Pth t B i u j→L j→lo≤i→i < hi→∃ u1 u2 x,u=u1 ++ u2∧Pth t B1 i u1 x∧L x∧Lang.star A u2:=by
      intro i u j p
      induction p with
      | @one i c h=>intro hl _ _;exact ⟨[c],[],i,rfl,.one h,hl,.nil⟩
      | @cons i k c u e h hb p ih =>
        intro hl a b
        rcases (hB i k a b).1 hb with hb | ⟨hb1,hb2⟩
        · have hk:=g.br i k a b hb
          obtain ⟨u1,u2,x,rfl,p1,hx,hs⟩:=ih hl hk.1 hk.2
          exact ⟨c :: u1,u2,x,rfl,.cons h hb p1,hx,hs⟩
        · have hk:=g.fr k hb2
          obtain ⟨u1,u2,x,rfl,p1,hx,hs⟩:=ih hl hk.1 hk.2
          exact ⟨[c],u1 ++ u2,i,rfl,.one h,hb1,.cons ((g.some u1 p1.ne).2 ⟨k,x,hb2,hx,p1⟩) hs⟩
    have ha:=g.fr i a
    obtain ⟨u1,u2,x,rfl,p1,hx,hs⟩:=key p b ha.1 ha.2
    exact .cons ((g.some u1 p1.ne).2 ⟨i,x,a,hx,p1⟩) hs
theorem Gl.looped (g:Gl t B1 F L e lo hi A) (hB:∀ i j,lo≤i→i < hi→(B i j ↔ B1 i j ∨ (L i∧F j))) (i j:Nat) (h1:lo≤i) (h2:i < hi) (h:B i j):lo≤j∧j < hi:=by
  rcases (hB i j h1 h2).1 h with h | ⟨_,h⟩
  · exact g.br i j h1 h2 h
  · exact g.fr j h
theorem Gl.star (g:Gl t B1 F L e lo hi A) (hB:∀ i j,lo≤i→i < hi→(B i j ↔ B1 i j ∨ (L i∧F j))):Gl t B F L True lo hi (Lang.star A) where
  le:=g.le
  fr:=g.fr
  lr:=g.lr
  br:=g.looped hB
  nil:=by simp [Lang.star.nil]
  some:=g.loop hB
theorem Gl.plus (g:Gl t B1 F L e lo hi A) (hB:∀ i j,lo≤i→i < hi→(B i j ↔ B1 i j ∨ (L i∧F j))):Gl t B F L e lo hi (Lang.plus A) where
  le:=g.le
  fr:=g.fr
  lr:=g.lr
  br:=g.looped hB
  nil:=by
    rw [← g.nil]
    constructor
    · rintro ⟨u,v,h,hu,_⟩
      have:u=[]∧v=[]:=by simpa using h.symm
      obtain ⟨rfl,rfl⟩:=this
      exact hu
    · intro h;exact ⟨[],[],rfl,h,.nil⟩
  some u hu:=by
    rw [← g.loop hB u hu]
    constructor
    · exact Lang.plus_star
    · intro h
      rcases Lang.star_plus h with h | h
      · exact absurd h hu
      · exact h
end G
end Go.Proofs.YtpgcidpghmoibaaGreatDoor
