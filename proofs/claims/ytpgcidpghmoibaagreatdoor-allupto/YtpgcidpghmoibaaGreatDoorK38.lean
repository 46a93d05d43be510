/-
  THE PROGRAM's READER
  THE PROGRAM's READER
-/
import Derived.Test.YtpgcidpghmoibaaGreatDoorK37
namespace Go.Proofs.YtpgcidpghmoibaaGreatDoor
namespace Pr
open Go.RowKit Go.Maps
open Rf (Kept)
open G (PNode)
def ExprP (b:Nat) (s:ByteArray) (bm:Nat) (vR:Value) (E:List (ByteArray × Nat)) (d:Nat):Prop:=
  ∀ (w:World) (c:C) (I:Nat→Prop) (T:List PNode) (B:List Nat) (i:Nat) (r:G.Res),PS w b s c bm vR I T B E→c.d=d→c.i=G.skip s i→G.R s E (.expr []) d i T r →
    Calls Tryz.prog 102 #[.pointer (some ⟨b,0,none⟩)] w fun e w'=>RPost w b s c bm vR I B E r e w'
theorem RPost.after {w w1 w':World} {b:Nat} {s:ByteArray} {c c1:C} {bm:Nat} {vR:Value} {I:Nat→Prop} {B:List Nat} {E:List (ByteArray × Nat)} {r:G.Res} {e:Ending} (h:RPost w1 b s c1 bm vR I B E r e w') (hg:Gr b w w1) (h2:c1.d=c.d) (h3:c1.p=c.p) (h4:c1.e=c.e):RPost w b s c bm vR I B E r e w':=by
  obtain ⟨g1,g2⟩:=h
  refine ⟨hg.trans g1,?_⟩
  cases r with
  | ok n j T' =>
    obtain ⟨I',B',e1,hp,hx⟩:=g2
    refine ⟨I',B',e1,?_,hx.low hg.size⟩
    have ec:({ c1 with i:=G.skip s j }:C)={ c with i:=G.skip s j }:=by rw [h2,h3,h4]
    rw [ec] at hp
    exact hp
  | err er p=>exact g2
set_option maxRecDepth 100000 in
set_option maxHeartbeats 1000000 in
theorem bracket_any (w:World) (b:Nat) (s:ByteArray) (c:C) (bm:Nat) (vR:Value) (I:Nat→Prop) (T:List PNode) (B:List Nat) (E:List (ByteArray × Nat)) (d:Nat) (r:G.Res) (h:PS w b s c bm vR I T B E) (hd:c.d=d) (hp:G.pk s c.i=40) (hr:G.R s E .atom d c.i T r) (hIH0:d < 40→ExprP b s bm vR E (d + 1)) (hd40:d≤40) :
    Calls Tryz.prog 152 #[.pointer (some ⟨b,0,none⟩)] w fun e w'=>RPost w b s c bm vR I B E r e w':=by
  subst hd
  have hs:=h.sz
  have hlt:=G.lt_of_pk (s:=s) (i:=c.i) (by omega)
  obtain ⟨c0,c1,c2,c3,c4,c5,c6,fr⟩:=h.rb.reads
  have hcase:(c.d=40∧r=.err 5 c.i) ∨ (c.d ≠ 40∧((∃ e p,r=.err e p∧G.R s E (.expr []) (c.d + 1) (c.i + 1) T (.err e p)) ∨ ∃ n j T',G.R s E (.expr []) (c.d + 1) (c.i + 1) T (.ok n j T')∧((G.pk s (G.skip s j) ≠ 41∧r=.err 2 (G.skip s j)) ∨ (G.pk s (G.skip s j)=41∧r=.ok n (G.skip s j + 1) T')))):=by
    cases hr with
    | deep _ h2=>exact .inl ⟨h2,rfl⟩
    | parenErr _ h2 h3=>exact .inr ⟨h2,.inl ⟨_,_,rfl,h3⟩⟩
    | parenForm _ h2 h3 h4=>exact .inr ⟨h2,.inr ⟨_,_,_,h3,.inl ⟨h4,rfl⟩⟩⟩
    | paren _ h2 h3 h4=>exact .inr ⟨h2,.inr ⟨_,_,_,h3,.inr ⟨h4,rfl⟩⟩⟩
    | nameForm h1=>omega
    | nameErr h1=>omega
    | name h1=>omega
    | dot h1=>omega
    | quote h1=>omega
    | setNot h1=>omega
    | set h1=>omega
  clear hr
  rcases hcase with ⟨h40,rfl⟩ | ⟨h40,hcase⟩
  · have hd40:c.d=40:=by omega
    rw [hd40] at c2
    go_enter Tryz.func152,Tryz.ntmps152
    go_wp2_with (go_at_call 127;refine (fail_any w b s c _ vR c.i 5 h.rb).mono ?_;rintro e w2 ⟨rfl,hR2,hE2⟩)
    go_ret
    exact ⟨hE2.kept,rfl,_,_,hR2⟩
  · have hdne:¬ (c.d:Int)=40:=by omega
    have hdl:c.d < 40:=by omega
    have hIH:=hIH0 (by omega)
    have hS1:=h.step (c':={ c with d:=c.d + 1 }) (Gr.set (Kept.refl _ w) 2 (.int .i64 ((c.d + 1:Nat):Int))) (h.rb.setD (c.d + 1)) h.ci
    have hcast:((c.d + 1:Nat):Int)=(c.d:Int) + 1:=by omega
    rw [hcast] at hS1
    have hSt:=step_any _ b s _ _ vR 1 hS1.rb hs hlt
    have HG1:Hid _:=hS1
    clear hS1
    rcases hcase with ⟨er,pl,rfl,hR⟩ | ⟨n,j,T',hR,hc⟩
    · go_enter Tryz.func152,Tryz.ntmps152
      go_wp2_with (first
        | (go_at_call 102;refine hX.mono ?_;rintro e w3 ⟨hg3,rfl,i3,d3,hR3⟩)
        | (go_at_call 125;refine hSt.mono ?_;rintro e w2 ⟨rfl,hR2,hE2⟩;have hP2:=HG1.out.step hE2.kept hR2 (G.skip_le s _ hlt);have hX:=hIH w2 _ I T B (c.i + 1) _ hP2 rfl rfl hR;have HG2:Hid (Gr b w w2):=(Gr.set (Kept.refl _ w) 2 _).trans hE2.kept))
      go_ret
      exact ⟨HG2.out.trans hg3,rfl,_,_,hR3⟩
    · rcases hc with ⟨h41,rfl⟩ | ⟨h41,rfl⟩
      · go_enter Tryz.func152,Tryz.ntmps152
        go_wp2_with (first
          | (go_at_call 103;refine (expect_not w3 b s _ _ vR 41 (by omega) hP3.rb hs hP3.ci h41).mono ?_;rintro e w4 ⟨rfl,hR4,hE4⟩)
          | (go_at_call 102;refine hX.mono ?_;rintro e w3 ⟨hg3,I',B',rfl,hP3,hX3⟩)
          | (go_at_call 125;refine hSt.mono ?_;rintro e w2 ⟨rfl,hR2,hE2⟩;have hP2:=HG1.out.step hE2.kept hR2 (G.skip_le s _ hlt);have hX:=hIH w2 _ I T B (c.i + 1) _ hP2 rfl rfl hR;have HG2:Hid (Gr b w w2):=(Gr.set (Kept.refl _ w) 2 _).trans hE2.kept))
        go_ret
        exact ⟨(HG2.out.trans hg3).trans hE4.kept,rfl,_,_,hR4⟩
      · have hlt4:=G.lt_of_pk (s:=s) (i:=G.skip s j) (by omega)
        go_enter Tryz.func152,Tryz.ntmps152
        go_wp2_with (first
          | (go_at_call 103;refine (expect_yes w3 b s _ _ vR 41 (by omega) hP3.rb hs hP3.ci h41).mono ?_;rintro e w4 ⟨rfl,hR4,hE4⟩;obtain ⟨d0,d1,d2,d3,d4,d5,d6,dr⟩:=hR4.reads;have d2':w4.cell? ⟨b,2,none⟩=some (.int .i64 ((c.d:Int) + 1)):=(by rw [d2];rfl);clear d2)
          | (go_at_call 102;refine hX.mono ?_;rintro e w3 ⟨hg3,I',B',rfl,hP3,hX3⟩;clear c0 c1 c2 c3 c4 c5 c6 fr)
          | (go_at_call 125;refine hSt.mono ?_;rintro e w2 ⟨rfl,hR2,hE2⟩;have hP2:=HG1.out.step hE2.kept hR2 (G.skip_le s _ hlt);have hX:=hIH w2 _ I T B (c.i + 1) _ hP2 rfl rfl hR;have HG2:Hid (Gr b w w2):=(Gr.set (Kept.refl _ w) 2 _).trans hE2.kept))
        go_ret
        have hG4:=(HG2.out.trans hg3).trans hE4.kept
        refine ⟨Gr.set hG4 _ _,I',B',rfl,?_,hX3.low HG2.out.size⟩
        exact hP3.step (Gr.set hE4.kept 2 _) (hR4.setD c.d) (G.skip_le s _ hlt4)
set_option maxRecDepth 100000 in
set_option maxHeartbeats 1000000 in
theorem atom_paren (w:World) (b:Nat) (s:ByteArray) (c:C) (bm:Nat) (vR:Value) (I:Nat→Prop) (T:List PNode) (B:List Nat) (E:List (ByteArray × Nat)) (d:Nat) (r:G.Res) (h:PS w b s c bm vR I T B E) (hd:c.d=d) (hp:G.pk s c.i=40) (hr:G.R s E .atom d c.i T r) (hIH0:d < 40→ExprP b s bm vR E (d + 1)) (hd40:d≤40) :
    Calls Tryz.prog 148 #[.pointer (some ⟨b,0,none⟩)] w fun e w'=>RPost w b s c bm vR I B E r e w':=by
  have hs:=h.sz
  have hlt:=G.lt_of_pk (s:=s) (i:=c.i) (by omega)
  have hPk:=peek_any w b s c _ vR h.rb hs h.ci
  rw [(pkV_eq (by omega)).2 hp] at hPk
  have hDr:∀ n,Gr b w (w.drewN n):=fun n=>Kept.drewN (Kept.refl _ w) n
  have hPn:∀ n,PS (w.drewN n) b s c bm vR I T B E:=fun n=>h.step (hDr n) (h.rb.drewN n) h.ci
  go_enter Tryz.func148,Tryz.ntmps148
  go_wp2_with (first
    | (go_at_call 152;refine (bracket_any (w.drewN n) b s c bm vR I T B E d r (hPn n) hd hp hr hIH0 hd40).mono ?_;rintro e w2 hpo;have HPo:Hid (RPost w b s c bm vR I B E r e w2):=hpo.after (c:=c) (hDr n) rfl rfl rfl;obtain ⟨g1,g2⟩:=hpo;cases r
       case' ok nn j T'=>obtain ⟨I',B',rfl,_,_⟩:=g2
       case' err er pl=>obtain ⟨rfl,_⟩:=g2)
    | (go_at_call 98;refine hPk.mono ?_;rintro e w1 ⟨rfl,n,rfl⟩))
  all_goals go_ret
  all_goals exact HPo.out
set_option maxRecDepth 100000 in
set_option maxHeartbeats 1000000 in
theorem atom_dot (w:World) (b:Nat) (s:ByteArray) (c:C) (bm:Nat) (vR:Value) (I:Nat→Prop) (T:List PNode) (B:List Nat) (E:List (ByteArray × Nat)) (d:Nat) (r:G.Res) (h:PS w b s c bm vR I T B E) (_hd:c.d=d) (hp:G.pk s c.i=46) (hr:G.R s E .atom d c.i T r) :
    Calls Tryz.prog 148 #[.pointer (some ⟨b,0,none⟩)] w fun e w'=>RPost w b s c bm vR I B E r e w':=by
  have hs:=h.sz
  have hlt:=G.lt_of_pk (s:=s) (i:=c.i) (by omega)
  have hPk:=peek_any w b s c _ vR h.rb hs h.ci
  rw [(pkV_eq (by omega)).2 hp] at hPk
  have hDr:∀ n,Gr b w (w.drewN n):=fun n=>Kept.drewN (Kept.refl _ w) n
  have hPn:∀ n,PS (w.drewN n) b s c bm vR I T B E:=fun n=>h.step (hDr n) (h.rb.drewN n) h.ci
  have hre:r=.ok T.length (c.i + 1) (T ++ [G.mk T 115 [] true []]):=by
    cases hr with
    | dot _=>rfl
    | deep h1=>omega
    | parenErr h1=>omega
    | parenForm h1=>omega
    | paren h1=>omega
    | nameForm h1=>omega
    | nameErr h1=>omega
    | name h1=>omega
    | quote h1=>omega
    | setNot h1=>omega
    | set h1=>omega
  subst hre
  clear hr
  go_enter Tryz.func148,Tryz.ntmps148
  go_wp2_with (first
    | (go_at_call 153
       refine hN4.mono ?_
       rintro e w4 ⟨a,rfl,ha4,hblk4,hb4⟩
       have hb24:=below_then hb3 hb4
       obtain ⟨I4,hP4,hX4,_,hbl4⟩:=leaf_ps hP2 hb24 (Nat.le_trans hb3.size ha4) hblk4 (own_same_at ho3 (fun k e=>hb4.block k (ho3.lt k e).2)) hok3 (by simp) (LocP.nil _ w2.heap.size I B) (by simp)
       have HL4:Hid _:=And.intro hP4 (And.intro hX4 (And.intro hbl4 (hG2.trans (Gr.below hb24))))
       clear hP4 hX4 hbl4 hblk4 ha4 hb4 hb24 ho3 hok3 hb3 hN4 hN3)
    | (go_at_call 154;refine hN3.mono ?_;rintro e w3 ⟨vs,rfl,⟨vr,rs',rfl,ho3,hok3⟩,hb3⟩;have hN4:=leaf_any w3 vr true (by obtain ⟨z1,z2,z3⟩:=Rf.own_len ho3;exact ⟨z1,_,z2,z3⟩))
    | (go_at_call 125;refine (step_any (w.drewN n) b s _ _ vR 1 (h.rb.drewN n) hs hlt).mono ?_;rintro e w2 ⟨rfl,hR2,hE2⟩;have hG2:Gr b w w2:=(hDr n).trans hE2.kept;have hP2:=h.step hG2 hR2 (G.skip_le s _ hlt);have hN3:=except_any w2 [] (.slice none 0 0) (World.ownsRow_nil _ _ _ _) (by simp) (by simp) (by simp))
    | (go_at_call 98;refine hPk.mono ?_;rintro e w1 ⟨rfl,n,rfl⟩))
  go_ret
  obtain ⟨q1,q2,q3,q4⟩:=HL4.out
  exact ⟨q4,I4,B ++ [a],by rw [q3];rfl,q1,q2.low hG2.size⟩
set_option maxRecDepth 100000 in
set_option maxHeartbeats 1000000 in
theorem atom_use (w:World) (b:Nat) (s:ByteArray) (c:C) (bm:Nat) (vR:Value) (I:Nat→Prop) (T:List PNode) (B:List Nat) (E:List (ByteArray × Nat)) (d:Nat) (r:G.Res) (h:PS w b s c bm vR I T B E) (_hd:c.d=d) (hp:G.pk s c.i=36) (hr:G.R s E .atom d c.i T r) :
    Calls Tryz.prog 148 #[.pointer (some ⟨b,0,none⟩)] w fun e w'=>RPost w b s c bm vR I B E r e w':=by
  have hs:=h.sz
  have hlt:=G.lt_of_pk (s:=s) (i:=c.i) (by omega)
  have hPk:=peek_any w b s c _ vR h.rb hs h.ci
  rw [(pkV_eq (by omega)).2 hp] at hPk
  have hDr:∀ n,Gr b w (w.drewN n):=fun n=>Kept.drewN (Kept.refl _ w) n
  have hPn:∀ n,PS (w.drewN n) b s c bm vR I T B E:=fun n=>h.step (hDr n) (h.rb.drewN n) h.ci
  go_enter Tryz.func148,Tryz.ntmps148
  go_wp2_with (first
    | (go_at_call 155;refine (use_any (w.drewN n) b s c bm vR I T B E d r (hPn n) hp hr).mono ?_;rintro e w2 hpo;have HPo:Hid (RPost w b s c bm vR I B E r e w2):=hpo.after (c:=c) (hDr n) rfl rfl rfl;obtain ⟨g1,g2⟩:=hpo;cases r
       case' ok nn j T'=>obtain ⟨I',B',rfl,_,_⟩:=g2
       case' err er pl=>obtain ⟨rfl,_⟩:=g2)
    | (go_at_call 98;refine hPk.mono ?_;rintro e w1 ⟨rfl,n,rfl⟩))
  all_goals go_ret
  all_goals exact HPo.out
set_option maxRecDepth 100000 in
set_option maxHeartbeats 1000000 in
theorem atom_quote (w:World) (b:Nat) (s:ByteArray) (c:C) (bm:Nat) (vR:Value) (I:Nat→Prop) (T:List PNode) (B:List Nat) (E:List (ByteArray × Nat)) (d:Nat) (r:G.Res) (h:PS w b s c bm vR I T B E) (_hd:c.d=d) (hp:G.pk s c.i=39) (hr:G.R s E (.quote []) d (c.i + 1) T r) :
    Calls Tryz.prog 148 #[.pointer (some ⟨b,0,none⟩)] w fun e w'=>RPost w b s c bm vR I B E r e w':=by
  have hs:=h.sz
  have hlt:=G.lt_of_pk (s:=s) (i:=c.i) (by omega)
  have hPk:=peek_any w b s c _ vR h.rb hs h.ci
  rw [(pkV_eq (by omega)).2 hp] at hPk
  have hDr:∀ n,Gr b w (w.drewN n):=fun n=>Kept.drewN (Kept.refl _ w) n
  have hPn:∀ n,PS (w.drewN n) b s c bm vR I T B E:=fun n=>h.step (hDr n) (h.rb.drewN n) h.ci
  go_enter Tryz.func148,Tryz.ntmps148
  go_wp2_with (first
    | (go_at_call 156;refine (quote_any (w.drewN n) b s c bm vR I T B E d r (hPn n) hlt hr).mono ?_;rintro e w2 hpo;have HPo:Hid (RPost w b s c bm vR I B E r e w2):=hpo.after (c:=c) (hDr n) rfl rfl rfl;obtain ⟨g1,g2⟩:=hpo;cases r
       case' ok nn j T'=>obtain ⟨I',B',rfl,_,_⟩:=g2
       case' err er pl=>obtain ⟨rfl,_⟩:=g2)
    | (go_at_call 98;refine hPk.mono ?_;rintro e w1 ⟨rfl,n,rfl⟩))
  all_goals go_ret
  all_goals exact HPo.out
set_option maxRecDepth 100000 in
set_option maxHeartbeats 1000000 in
theorem atom_setn (w:World) (b:Nat) (s:ByteArray) (c:C) (bm:Nat) (vR:Value) (I:Nat→Prop) (T:List PNode) (B:List Nat) (E:List (ByteArray × Nat)) (d:Nat) (r:G.Res) (h:PS w b s c bm vR I T B E) (_hd:c.d=d) (hp:G.pk s c.i=91) (h94:G.pk s (c.i + 1)=94) (hr:G.R s E (.set true []) d (c.i + 2) T r) :
    Calls Tryz.prog 148 #[.pointer (some ⟨b,0,none⟩)] w fun e w'=>RPost w b s c bm vR I B E r e w':=by
  have hs:=h.sz
  have hlt:=G.lt_of_pk (s:=s) (i:=c.i) (by omega)
  have hPk:=peek_any w b s c _ vR h.rb hs h.ci
  rw [(pkV_eq (by omega)).2 hp] at hPk
  have hDr:∀ n,Gr b w (w.drewN n):=fun n=>Kept.drewN (Kept.refl _ w) n
  have hPn:∀ n,PS (w.drewN n) b s c bm vR I T B E:=fun n=>h.step (hDr n) (h.rb.drewN n) h.ci
  go_enter Tryz.func148,Tryz.ntmps148
  go_wp2_with (first
    | (go_at_call 157;refine (set_not (w.drewN n) b s c bm vR I T B E d r (hPn n) hlt h94 hr).mono ?_;rintro e w2 hpo;have HPo:Hid (RPost w b s c bm vR I B E r e w2):=hpo.after (c:=c) (hDr n) rfl rfl rfl;obtain ⟨g1,g2⟩:=hpo;cases r
       case' ok nn j T'=>obtain ⟨I',B',rfl,_,_⟩:=g2
       case' err er pl=>obtain ⟨rfl,_⟩:=g2)
    | (go_at_call 98;refine hPk.mono ?_;rintro e w1 ⟨rfl,n,rfl⟩))
  all_goals go_ret
  all_goals exact HPo.out
set_option maxRecDepth 100000 in
set_option maxHeartbeats 1000000 in
theorem atom_setp (w:World) (b:Nat) (s:ByteArray) (c:C) (bm:Nat) (vR:Value) (I:Nat→Prop) (T:List PNode) (B:List Nat) (E:List (ByteArray × Nat)) (d:Nat) (r:G.Res) (h:PS w b s c bm vR I T B E) (_hd:c.d=d) (hp:G.pk s c.i=91) (h94:G.pk s (c.i + 1) ≠ 94) (hr:G.R s E (.set false []) d (c.i + 1) T r) :
    Calls Tryz.prog 148 #[.pointer (some ⟨b,0,none⟩)] w fun e w'=>RPost w b s c bm vR I B E r e w':=by
  have hs:=h.sz
  have hlt:=G.lt_of_pk (s:=s) (i:=c.i) (by omega)
  have hPk:=peek_any w b s c _ vR h.rb hs h.ci
  rw [(pkV_eq (by omega)).2 hp] at hPk
  have hDr:∀ n,Gr b w (w.drewN n):=fun n=>Kept.drewN (Kept.refl _ w) n
  have hPn:∀ n,PS (w.drewN n) b s c bm vR I T B E:=fun n=>h.step (hDr n) (h.rb.drewN n) h.ci
  go_enter Tryz.func148,Tryz.ntmps148
  go_wp2_with (first
    | (go_at_call 157;refine (set_plain (w.drewN n) b s c bm vR I T B E d r (hPn n) hlt h94 hr).mono ?_;rintro e w2 hpo;have HPo:Hid (RPost w b s c bm vR I B E r e w2):=hpo.after (c:=c) (hDr n) rfl rfl rfl;obtain ⟨g1,g2⟩:=hpo;cases r
       case' ok nn j T'=>obtain ⟨I',B',rfl,_,_⟩:=g2
       case' err er pl=>obtain ⟨rfl,_⟩:=g2)
    | (go_at_call 98;refine hPk.mono ?_;rintro e w1 ⟨rfl,n,rfl⟩))
  all_goals go_ret
  all_goals exact HPo.out
theorem atom_any (w:World) (b:Nat) (s:ByteArray) (c:C) (bm:Nat) (vR:Value) (I:Nat→Prop) (T:List PNode) (B:List Nat) (E:List (ByteArray × Nat)) (d:Nat) (r:G.Res) (h:PS w b s c bm vR I T B E) (hd:c.d=d) (hr:G.R s E .atom d c.i T r) (hIH0:d < 40→ExprP b s bm vR E (d + 1)) (hd40:d≤40) :
    Calls Tryz.prog 148 #[.pointer (some ⟨b,0,none⟩)] w fun e w'=>RPost w b s c bm vR I B E r e w':=by
  cases hr with
  | deep h1 h2=>exact atom_paren w b s c bm vR I T B E d _ h hd h1 (.deep h1 h2) hIH0 hd40
  | parenErr h1 h2 h3=>exact atom_paren w b s c bm vR I T B E d _ h hd h1 (.parenErr h1 h2 h3) hIH0 hd40
  | parenForm h1 h2 h3 h4=>exact atom_paren w b s c bm vR I T B E d _ h hd h1 (.parenForm h1 h2 h3 h4) hIH0 hd40
  | paren h1 h2 h3 h4=>exact atom_paren w b s c bm vR I T B E d _ h hd h1 (.paren h1 h2 h3 h4) hIH0 hd40
  | dot h1=>exact atom_dot w b s c bm vR I T B E d _ h hd h1 (.dot h1)
  | nameForm h1 h2=>exact atom_use w b s c bm vR I T B E d _ h hd h1 (.nameForm h1 h2)
  | nameErr h1 h2 h3=>exact atom_use w b s c bm vR I T B E d _ h hd h1 (.nameErr h1 h2 h3)
  | name h1 h2 h3=>exact atom_use w b s c bm vR I T B E d _ h hd h1 (.name h1 h2 h3)
  | quote h1 h2=>exact atom_quote w b s c bm vR I T B E d _ h hd h1 h2
  | setNot h1 h2 h3=>exact atom_setn w b s c bm vR I T B E d _ h hd h1 h2 h3
  | set h1 h2 h3=>exact atom_setp w b s c bm vR I T B E d _ h hd h1 h2 h3
set_option maxRecDepth 100000 in
set_option maxHeartbeats 1000000 in
theorem atom_none (w:World) (b:Nat) (s:ByteArray) (c:C) (bm:Nat) (vR:Value) (I:Nat→Prop) (T:List PNode) (B:List Nat) (E:List (ByteArray × Nat)) (h:PS w b s c bm vR I T B E) (ha:G.atomic (G.pk s c.i)=false) :
    Calls Tryz.prog 148 #[.pointer (some ⟨b,0,none⟩)] w fun e w'=>RPost w b s c bm vR I B E (.err 2 c.i) e w':=by
  have hs:=h.sz
  have hPk:=peek_any w b s c _ vR h.rb hs h.ci
  have hDr:∀ n,Gr b w (w.drewN n):=fun n=>Kept.drewN (Kept.refl _ w) n
  simp only [G.atomic,decide_eq_false_iff_not] at ha
  have p1:=pkV_ne (s:=s) (i:=c.i) (c:=40) (by omega) (fun e=>ha (by omega))
  have p2:=pkV_ne (s:=s) (i:=c.i) (c:=46) (by omega) (fun e=>ha (by omega))
  have p3:=pkV_ne (s:=s) (i:=c.i) (c:=36) (by omega) (fun e=>ha (by omega))
  have p4:=pkV_ne (s:=s) (i:=c.i) (c:=39) (by omega) (fun e=>ha (by omega))
  have p5:=pkV_ne (s:=s) (i:=c.i) (c:=91) (by omega) (fun e=>ha (by omega))
  generalize pkV s c.i=p at hPk p1 p2 p3 p4 p5
  obtain ⟨c0,c1,c2,c3,c4,c5,c6,fr⟩:=h.rb.reads
  clear ha
  go_enter Tryz.func148,Tryz.ntmps148
  go_wp2_with (first
    | (go_at_call 127;refine (fail_any (w.drewN n) b s c _ vR c.i 2 (h.rb.drewN n)).mono ?_;rintro e w2 ⟨rfl,hR2,hE2⟩)
    | (go_at_call 98;refine hPk.mono ?_;rintro e w1 ⟨rfl,n,rfl⟩))
  go_ret
  exact ⟨(hDr n).trans hE2.kept,rfl,_,_,hR2⟩
end Pr
end Go.Proofs.YtpgcidpghmoibaaGreatDoor

namespace Go.Proofs.YtpgcidpghmoibaaGreatDoor
namespace Pr
open Go.RowKit Go.Maps
open Rf (Kept)
open G (PNode)
set_option maxRecDepth 100000 in
set_option maxHeartbeats 1000000 in
theorem ahead_any (w:World) (b:Nat) (s:ByteArray) (c:C) (m vR:Value) (hR:RB w b s c m vR) (hs:s.size≤2000) (hi:c.i≤s.size) :
    Calls Tryz.prog 142 #[.pointer (some ⟨b,0,none⟩)] w fun e w'=>e=.returned (.bool (G.atomic (G.pk s c.i)))∧∃ n,w'=w.drewN n:=by
  have hPk:=peek_any w b s c _ vR hR hs hi
  cases ha:G.atomic (G.pk s c.i) with
  | false =>
    simp only [G.atomic,decide_eq_false_iff_not] at ha
    have p1:=pkV_ne (s:=s) (i:=c.i) (c:=40) (by omega) (fun e=>ha (by omega))
    have p2:=pkV_ne (s:=s) (i:=c.i) (c:=46) (by omega) (fun e=>ha (by omega))
    have p3:=pkV_ne (s:=s) (i:=c.i) (c:=36) (by omega) (fun e=>ha (by omega))
    have p4:=pkV_ne (s:=s) (i:=c.i) (c:=39) (by omega) (fun e=>ha (by omega))
    have p5:=pkV_ne (s:=s) (i:=c.i) (c:=91) (by omega) (fun e=>ha (by omega))
    generalize pkV s c.i=p at hPk p1 p2 p3 p4 p5
    clear ha
    go_enter Tryz.func142,Tryz.ntmps142
    go_wp2_with (go_at_call 98;refine hPk.mono ?_;rintro e w1 ⟨rfl,n,rfl⟩)
    go_ret
    exact ⟨rfl,_,rfl⟩
  | true =>
    simp only [G.atomic,decide_eq_true_eq] at ha
    have hv:pkV s c.i=G.pk s c.i:=(pkV_eq (by omega)).2 rfl
    rw [hv] at hPk
    clear hv
    generalize G.pk s c.i=p at hPk ha
    rcases ha with rfl | rfl | rfl | rfl | rfl
    all_goals
      go_enter Tryz.func142,Tryz.ntmps142
      go_wp2_with (go_at_call 98;refine hPk.mono ?_;rintro e w1 ⟨rfl,n,rfl⟩)
      go_ret
      exact ⟨rfl,_,rfl⟩
set_option maxRecDepth 100000 in
set_option maxHeartbeats 1000000 in
theorem item_err (w:World) (b:Nat) (s:ByteArray) (c:C) (bm:Nat) (vR:Value) (I:Nat→Prop) (B:List Nat) (E:List (ByteArray × Nat)) (er p:Nat) (hA:Calls Tryz.prog 148 #[.pointer (some ⟨b,0,none⟩)] w fun e w'=>RPost w b s c bm vR I B E (.err er p) e w') :
    Calls Tryz.prog 143 #[.pointer (some ⟨b,0,none⟩)] w fun e w'=>RPost w b s c bm vR I B E (.err er p) e w':=by
  go_enter Tryz.func143,Tryz.ntmps143
  go_wp2_with (go_at_call 148;refine hA.mono ?_;rintro e w1 ⟨hg1,rfl,i1,d1,hR1⟩)
  go_ret
  exact ⟨hg1,rfl,_,_,hR1⟩
theorem own_new_base {w:World} {b e size n g cap:Nat} {xs:List Value} (h:w.ownsRow 0 e size (.slice (some ⟨g,0,none⟩) n cap) n xs) (hg:b≤g):w.ownsRow b e size (.slice (some ⟨g,0,none⟩) n cap) n xs:=by
  obtain ⟨h1,h2⟩:=h
  refine ⟨h1,?_⟩
  rcases h2 with ⟨h2,_⟩ | ⟨g',cap',cur,h2,_,h4⟩
  · cases h2
  · simp only [Value.slice.injEq,Option.some.injEq,Addr.mk.injEq,and_true,true_and] at h2
    obtain ⟨rfl,rfl⟩:=h2
    exact .inr ⟨g,cap,cur,rfl,hg,h4⟩
set_option maxRecDepth 100000 in
set_option maxHeartbeats 1000000 in
theorem item_star (w:World) (b:Nat) (s:ByteArray) (c:C) (bm:Nat) (vR:Value) (I:Nat→Prop) (B:List Nat) (E:List (ByteArray × Nat)) (n j:Nat) (T':List PNode) (hs:s.size≤2000) (hn:n < T'.length) (hk:G.pk s (G.skip s j)=42) (hA:Calls Tryz.prog 148 #[.pointer (some ⟨b,0,none⟩)] w fun e w'=>RPost w b s c bm vR I B E (.ok n j T') e w') :
    Calls Tryz.prog 143 #[.pointer (some ⟨b,0,none⟩)] w fun e w'=>RPost w b s c bm vR I B E (.ok T'.length (G.skip s j + 1) (T' ++ [G.mk T' 42 [] false [n]])) e w':=by
  have hlt:=G.lt_of_pk (s:=s) (i:=G.skip s j) (by omega)
  go_enter Tryz.func143,Tryz.ntmps143
  go_wp2_with (first
    | (go_at_call 149;refine hN4.mono ?_;rintro e w4 ⟨a,g,rfl,ha4,hg4,hblk4,ho4,hb4⟩)
    | (go_at_call 126;refine (take_yes w1 b s _ _ vR 42 (by omega) hP1.rb hs hP1.ci hk).mono ?_;rintro e w3 ⟨rfl,hR3,hE3⟩;have hG3:Gr b w w3:=Kept.trans hg1 hE3.kept;have hG13:Gr b w1 w3:=hE3.kept;have hP3:=hP1.step hG13 hR3 (G.skip_le s _ hlt);have hN4:=repeat_any w3 3 (bl B1 n) _ (hP3.tr.places hP3.wf n hn))
    | (go_at_call 148;refine hA.mono ?_;rintro e w1 ⟨hg1,I1,B1,rfl,hP1,hX1⟩))
  go_ret
  have hP4:=hP3.below hb4
  have hsz:G.sz T' n=min (G.sizeOf T' [n]) 101:=by
    have:=hP3.tr.sz_le hP3.wf n hn
    simp [G.sizeOf]
    omega
  obtain ⟨I',hP5,hX5⟩:=hP4.inner (w0:=w3) (k:=42) (ps:=[n]) hP3.base.b hP3.base.m ha4 (.inr ⟨by decide,rfl⟩) (by simpa using hn) (by rw [← hsz];exact hblk4) (own_new_base ho4 hg4)
  refine ⟨hG3.trans (Gr.below hb4),I',B1 ++ [a],?_,hP5,hX1.trans hG3.size hX5⟩
  rw [← hP3.tr.len,bl_new]
  rfl
set_option maxRecDepth 100000 in
set_option maxHeartbeats 1000000 in
theorem item_plus (w:World) (b:Nat) (s:ByteArray) (c:C) (bm:Nat) (vR:Value) (I:Nat→Prop) (B:List Nat) (E:List (ByteArray × Nat)) (n j:Nat) (T':List PNode) (hs:s.size≤2000) (hn:n < T'.length) (hk:G.pk s (G.skip s j)=43) (hA:Calls Tryz.prog 148 #[.pointer (some ⟨b,0,none⟩)] w fun e w'=>RPost w b s c bm vR I B E (.ok n j T') e w') :
    Calls Tryz.prog 143 #[.pointer (some ⟨b,0,none⟩)] w fun e w'=>RPost w b s c bm vR I B E (.ok T'.length (G.skip s j + 1) (T' ++ [G.mk T' 43 [] false [n]])) e w':=by
  have hlt:=G.lt_of_pk (s:=s) (i:=G.skip s j) (by omega)
  go_enter Tryz.func143,Tryz.ntmps143
  go_wp2_with (first
    | (go_at_call 149;refine hN4.mono ?_;rintro e w4 ⟨a,g,rfl,ha4,hg4,hblk4,ho4,hb4⟩)
    | (go_at_call 126;refine (take_yes wn0 b s _ _ vR 43 (by omega) hRn0 hs hP1.ci hk).mono ?_;rintro e w3 ⟨rfl,hR3,hE3⟩;have hG3:Gr b w w3:=Kept.trans hGn0 hE3.kept;have hG13:Gr b w1 w3:=(Kept.trans hEn0.kept hE3.kept);have hP3:=hP1.step hG13 hR3 (G.skip_le s _ hlt);have hN4:=repeat_any w3 4 (bl B1 n) _ (hP3.tr.places hP3.wf n hn))
    | (go_at_call 126;refine (take_not w1 b s _ _ vR 42 (by omega) hP1.rb hs hP1.ci (by show ¬ G.pk s (G.skip s j)=(42:Int);rw [hk];decide)).mono ?_;rintro e wn0 ⟨rfl,hRn0,hEn0⟩;have hGn0:Gr b w wn0:=Kept.trans hg1 hEn0.kept)
    | (go_at_call 148;refine hA.mono ?_;rintro e w1 ⟨hg1,I1,B1,rfl,hP1,hX1⟩))
  go_ret
  have hP4:=hP3.below hb4
  have hsz:G.sz T' n=min (G.sizeOf T' [n]) 101:=by
    have:=hP3.tr.sz_le hP3.wf n hn
    simp [G.sizeOf]
    omega
  obtain ⟨I',hP5,hX5⟩:=hP4.inner (w0:=w3) (k:=43) (ps:=[n]) hP3.base.b hP3.base.m ha4 (.inr ⟨by decide,rfl⟩) (by simpa using hn) (by rw [← hsz];exact hblk4) (own_new_base ho4 hg4)
  refine ⟨hG3.trans (Gr.below hb4),I',B1 ++ [a],?_,hP5,hX1.trans hG3.size hX5⟩
  rw [← hP3.tr.len,bl_new]
  rfl
set_option maxRecDepth 100000 in
set_option maxHeartbeats 1000000 in
theorem item_maybe (w:World) (b:Nat) (s:ByteArray) (c:C) (bm:Nat) (vR:Value) (I:Nat→Prop) (B:List Nat) (E:List (ByteArray × Nat)) (n j:Nat) (T':List PNode) (hs:s.size≤2000) (hn:n < T'.length) (hk:G.pk s (G.skip s j)=63) (hA:Calls Tryz.prog 148 #[.pointer (some ⟨b,0,none⟩)] w fun e w'=>RPost w b s c bm vR I B E (.ok n j T') e w') :
    Calls Tryz.prog 143 #[.pointer (some ⟨b,0,none⟩)] w fun e w'=>RPost w b s c bm vR I B E (.ok T'.length (G.skip s j + 1) (T' ++ [G.mk T' 63 [] false [n]])) e w':=by
  have hlt:=G.lt_of_pk (s:=s) (i:=G.skip s j) (by omega)
  go_enter Tryz.func143,Tryz.ntmps143
  go_wp2_with (first
    | (go_at_call 149;refine hN4.mono ?_;rintro e w4 ⟨a,g,rfl,ha4,hg4,hblk4,ho4,hb4⟩)
    | (go_at_call 126;refine (take_yes wn1 b s _ _ vR 63 (by omega) hRn1 hs hP1.ci hk).mono ?_;rintro e w3 ⟨rfl,hR3,hE3⟩;have hG3:Gr b w w3:=Kept.trans hGn1 hE3.kept;have hG13:Gr b w1 w3:=(Kept.trans hEn0.kept (Kept.trans hEn1.kept hE3.kept));have hP3:=hP1.step hG13 hR3 (G.skip_le s _ hlt);have hN4:=repeat_any w3 5 (bl B1 n) _ (hP3.tr.places hP3.wf n hn))
    | (go_at_call 126;refine (take_not wn0 b s _ _ vR 43 (by omega) hRn0 hs hP1.ci (by show ¬ G.pk s (G.skip s j)=(43:Int);rw [hk];decide)).mono ?_;rintro e wn1 ⟨rfl,hRn1,hEn1⟩;have hGn1:Gr b w wn1:=Kept.trans hGn0 hEn1.kept)
    | (go_at_call 126;refine (take_not w1 b s _ _ vR 42 (by omega) hP1.rb hs hP1.ci (by show ¬ G.pk s (G.skip s j)=(42:Int);rw [hk];decide)).mono ?_;rintro e wn0 ⟨rfl,hRn0,hEn0⟩;have hGn0:Gr b w wn0:=Kept.trans hg1 hEn0.kept)
    | (go_at_call 148;refine hA.mono ?_;rintro e w1 ⟨hg1,I1,B1,rfl,hP1,hX1⟩))
  go_ret
  have hP4:=hP3.below hb4
  have hsz:G.sz T' n=min (G.sizeOf T' [n]) 101:=by
    have:=hP3.tr.sz_le hP3.wf n hn
    simp [G.sizeOf]
    omega
  obtain ⟨I',hP5,hX5⟩:=hP4.inner (w0:=w3) (k:=63) (ps:=[n]) hP3.base.b hP3.base.m ha4 (.inr ⟨by decide,rfl⟩) (by simpa using hn) (by rw [← hsz];exact hblk4) (own_new_base ho4 hg4)
  refine ⟨hG3.trans (Gr.below hb4),I',B1 ++ [a],?_,hP5,hX1.trans hG3.size hX5⟩
  rw [← hP3.tr.len,bl_new]
  rfl
set_option maxRecDepth 100000 in
set_option maxHeartbeats 1000000 in
theorem item_plain (w:World) (b:Nat) (s:ByteArray) (c:C) (bm:Nat) (vR:Value) (I:Nat→Prop) (B:List Nat) (E:List (ByteArray × Nat)) (n j:Nat) (T':List PNode) (hs:s.size≤2000) (hrep:G.repeats (G.pk s (G.skip s j))=false) (hA:Calls Tryz.prog 148 #[.pointer (some ⟨b,0,none⟩)] w fun e w'=>RPost w b s c bm vR I B E (.ok n j T') e w') :
    Calls Tryz.prog 143 #[.pointer (some ⟨b,0,none⟩)] w fun e w'=>RPost w b s c bm vR I B E (.ok n (G.skip s j) T') e w':=by
  have hk:∀ q:Nat,(q=42 ∨ q=43 ∨ q=63)→¬ G.pk s (G.skip s j)=(q:Int):=by
    intro q hq e
    simp only [G.repeats,decide_eq_false_iff_not] at hrep
    omega
  go_enter Tryz.func143,Tryz.ntmps143
  go_wp2_with (first
    | (go_at_call 126;refine (take_not wn1 b s _ _ vR 63 (by omega) hRn1 hs hP1.ci (hk 63 (by decide))).mono ?_;rintro e wn2 ⟨rfl,hRn2,hEn2⟩;have hGn2:Gr b w wn2:=Kept.trans hGn1 hEn2.kept)
    | (go_at_call 126;refine (take_not wn0 b s _ _ vR 43 (by omega) hRn0 hs hP1.ci (hk 43 (by decide))).mono ?_;rintro e wn1 ⟨rfl,hRn1,hEn1⟩;have hGn1:Gr b w wn1:=Kept.trans hGn0 hEn1.kept)
    | (go_at_call 126;refine (take_not w1 b s _ _ vR 42 (by omega) hP1.rb hs hP1.ci (hk 42 (by decide))).mono ?_;rintro e wn0 ⟨rfl,hRn0,hEn0⟩;have hGn0:Gr b w wn0:=Kept.trans hg1 hEn0.kept)
    | (go_at_call 148;refine hA.mono ?_;rintro e w1 ⟨hg1,I1,B1,rfl,hP1,hX1⟩))
  go_ret
  refine ⟨hGn2,I1,B1,rfl,?_,hX1⟩
  rw [G.skip_skip]
  exact hP1.step (Kept.trans (Kept.trans hEn0.kept hEn1.kept) hEn2.kept) hRn2 hP1.ci
end Pr
end Go.Proofs.YtpgcidpghmoibaaGreatDoor
