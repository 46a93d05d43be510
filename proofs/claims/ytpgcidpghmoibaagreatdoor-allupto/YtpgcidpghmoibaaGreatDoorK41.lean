/-
  THE PROGRAM's calls
  THE LAW's HELPER compiled
  THE PROGRAM's BITS as sets of places, without the program
  THE PROGRAM's MACHINE as plain functions
-/
import Derived.Test.YtpgcidpghmoibaaGreatDoorK40
import Derived.Test.YtpgcidpghmoibaaGreatDoorK03
import Derived.Test.YtpgcidpghmoibaaGreatDoorK08
import Derived.Test.YtpgcidpghmoibaaGreatDoorK19
import Derived.Test.YtpgcidpghmoibaaGreatDoorK32
import Derived.Laws.Bits64b
import Derived.Test.YtpgcidpghmoibaaGreatDoorK35
namespace Go.Proofs.YtpgcidpghmoibaaGreatDoor
namespace Pr
open Go.RowKit
open Rf (Kept Lies)
open G (PNode)
structure RuB (w:World) (b:Nat) (T:List PNode) (Q:List Nat) (m:Nat):Prop where
  ex:∃ s:ByteArray,s.size≤2000∧G.Src s 0 [] [] [] (.ok Q T)∧w.heap[b]?=some (.cells #[.string s,.int .i64 (Q.length:Int),pv m] 113 (0,0))
theorem RuB.lt {w:World} {b:Nat} {T:List PNode} {Q:List Nat} {m:Nat} (h:RuB w b T Q m):b < w.heap.size:=by
  obtain ⟨s,_,_,h1⟩:=h.ex
  exact lt_of_block h1
theorem RuB.same {w w':World} {b:Nat} {T:List PNode} {Q:List Nat} {m:Nat} (h:RuB w b T Q m) (e:w'.heap[b]?=w.heap[b]?):RuB w' b T Q m:=by
  obtain ⟨s,h2,h3,h1⟩:=h.ex
  exact ⟨s,h2,h3,e.trans h1⟩
theorem RuB.num {w:World} {b:Nat} {T:List PNode} {Q:List Nat} {m:Nat} (h:RuB w b T Q m):w.cell? ⟨b,1,none⟩=some (.int .i64 (Q.length:Int)):=by
  obtain ⟨s,_,_,h1⟩:=h.ex
  exact Rf.cell_blk h1 1 _ rfl
theorem RuB.mach {w:World} {b:Nat} {T:List PNode} {Q:List Nat} {m:Nat} (h:RuB w b T Q m):w.cell? ⟨b,2,none⟩=some (pv m):=by
  obtain ⟨s,_,_,h1⟩:=h.ex
  exact Rf.cell_blk h1 2 _ rfl
set_option maxRecDepth 100000 in
theorem sclone_any (s:ByteArray) (w:World) (hs:s.size≤2000):Calls Tryz.prog 51 #[.string s] w fun e w'=>e=.returned (.string s)∧Below w.heap.size w w':=by
  have hC:=Tryz.stringslite_Clone s w (by omega)
  go_enter Tryz.func51,Tryz.ntmps51
  go_wp2_with (go_at_call 78;refine hC.mono ?_;rintro e w1 ⟨rfl,hb1⟩)
  go_ret
  exact ⟨rfl,hb1⟩
structure PRul (w:World) (b:Nat) (T:List PNode) (Q:List Nat):Prop where
  ex:∃ I m v V,RuB w b T Q m∧MaAt w I m v (machN T Q Q.length).1 V (machN T Q Q.length).2∧∀ k,I k→k < w.heap.size
theorem PRul.below {w w':World} {b:Nat} {T:List PNode} {Q:List Nat} (h:PRul w b T Q) (hb:Below w.heap.size w w'):PRul w' b T Q:=by
  obtain ⟨I,m,v,V,h1,h2,h3⟩:=h.ex
  exact ⟨I,m,v,V,h1.same (hb.block b h1.lt),h2.below h3 hb,fun k hk=>Nat.lt_of_lt_of_le (h3 k hk) hb.size⟩
set_option maxRecDepth 100000 in
set_option maxHeartbeats 1000000 in
theorem count_any (w:World) (b:Nat) (T:List PNode) (Q:List Nat) (h:PRul w b T Q):Calls Tryz.prog 16 #[pv b] w fun e w'=>e=.returned (.int .i64 (Q.length:Int))∧w'=w:=by
  obtain ⟨I,m,v,V,h1,h2,h3⟩:=h.ex
  have c0:=h1.num
  go_enter Tryz.func16,Tryz.ntmps16
  go_wp2
  go_ret
  exact ⟨rfl,rfl⟩
set_option maxRecDepth 100000 in
set_option maxHeartbeats 1000000 in
theorem pplaces_any (w:World) (b:Nat) (T:List PNode) (Q:List Nat) (h:PRul w b T Q) (hT:G.WF T) (hQ:∀ q ∈ Q,q < T.length):Calls Tryz.prog 17 #[pv b] w fun e w'=>e=.returned (.int .i64 ((Q.flatMap (G.lv T)).length:Int))∧w'=w:=by
  obtain ⟨I,m,v,V,h1,h2,h3⟩:=h.ex
  have c1:=h1.mach
  have hP:=mplaces_any w I m v _ V _ h2
  have hl:=machN_len hT hQ Q.length (Nat.le_refl _)
  rw [List.take_length] at hl
  rw [hl] at hP
  generalize (Q.flatMap (G.lv T)).length=N at *
  go_enter Tryz.func17,Tryz.ntmps17
  go_wp2_with (go_at_call 55;refine hP.mono ?_;rintro e w1 ⟨rfl,rfl⟩)
  go_ret
  exact ⟨rfl,rfl⟩
set_option maxRecDepth 100000 in
set_option maxHeartbeats 1000000 in
theorem psame_any (w:World) (b:Nat) (T:List PNode) (Q:List Nat) (h:PRul w b T Q) (hT:G.WF T) (hQ:∀ q ∈ Q,q < T.length) (hsz:(Q.flatMap (G.lv T)).length≤100) (a c:Int):Calls Tryz.prog 15 #[pv b,.int .i32 a,.int .i32 c] w fun e w'=>e=.returned (.bool (!(Q.any (G.tellB T a c))))∧Below w.heap.size w w':=by
  obtain ⟨I,m,v,V,h1,h2,h3⟩:=h.ex
  have c1:=h1.mach
  have hl:=machN_len hT hQ Q.length (Nat.le_refl _)
  have hx:=machN_xs hT hQ Q.length (Nat.le_refl _)
  rw [List.take_length] at hl hx
  have hS:=msame_any w I m v _ V _ h2 h3 (by omega) a c
  have he:tellP (xs (machN T Q Q.length).1) a c=Q.any (G.tellB T a c):=by
    rw [hx]
    unfold tellP G.tellB
    rw [List.any_flatMap]
  rw [he] at hS
  go_enter Tryz.func15,Tryz.ntmps15
  go_wp2_with (go_at_call 54;refine hS.mono ?_;rintro e w1 ⟨rfl,hb1⟩)
  go_ret
  exact ⟨rfl,hb1⟩
set_option maxRecDepth 100000 in
set_option maxHeartbeats 1000000 in
theorem pcomp_long (w:World) (s:ByteArray) (hs:2000 < s.size) (_hm:s.size≤maxLen) :
    Calls Tryz.prog 13 #[.string s] w fun e w'=>e=.returned (.tuple #[.pointer none,.int .i64 0,.int .i64 1])∧w'=w:=by
  have hs':(2000:Int) < (s.size:Int):=by omega
  go_enter Tryz.func13,Tryz.ntmps13
  go_wp2
  go_ret3
  exact ⟨rfl,rfl⟩
def PComp (w:World) (r:G.Fin') (e:Ending) (w':World):Prop:=
  Below w.heap.size w w'∧match r with
    | .err c p=>e=.returned (.tuple #[.pointer none,.int .i64 (p:Int),.int .i64 (c:Int)])
    | .ok Q T=>((50 < Q.length ∨ 100 < G.sizeOf T Q)∧e=.returned (.tuple #[.pointer none,.int .i64 0,.int .i64 6])) ∨
      ((Q.length≤50∧G.sizeOf T Q≤100)∧∃ b,w.heap.size≤b∧e=.returned (.tuple #[pv b,.int .i64 0,.int .i64 0])∧PRul w' b T Q)
set_option maxRecDepth 100000 in
set_option maxHeartbeats 2000000 in
theorem pcomp_any (w:World) (s:ByteArray) (r:G.Fin') (hs:s.size≤2000) (hT:Tabs w) (hr:G.Src s 0 [] [] [] r) (hne:∀ c p,r=.err c p→c ≠ 0) :
    Calls Tryz.prog 13 #[.string s] w fun e w'=>PComp w r e w':=by
  have hs':¬ (2000:Int) < (s.size:Int):=by omega
  have hR:=read_any w s r hs hT hr
  cases r with
  | err c p =>
    have hc:((c:Int) != 0)=true:=by have:=hne c p rfl;simp;omega
    unfold ReadP at hR
    go_enter Tryz.func13,Tryz.ntmps13
    go_wp2_with (go_at_call 49;refine hR.mono ?_;rintro e w1 ⟨hb1,rfl⟩)
    go_ret3
    exact ⟨hb1,rfl⟩
  | ok Q T =>
    unfold ReadP at hR
    by_cases h50:50 < Q.length
    · have h50':(50:Int) < (Q.length:Int):=by omega
      go_enter Tryz.func13,Tryz.ntmps13
      go_wp2_with (go_at_call 49;refine hR.mono ?_;rintro e w1 ⟨hb1,vR,I,B,rfl,hTr,hwf,hrow,hq,hql⟩;obtain ⟨va,vc,hve⟩:=Rf.own_len hrow;subst hve)
      go_ret3
      exact ⟨hb1,.inl ⟨.inl h50,rfl⟩⟩
    · have h50':¬ (50:Int) < (Q.length:Int):=by omega
      by_cases h100:100 < G.sizeOf T Q
      · have hmin:min (G.sizeOf T Q) 101=101:=by omega
        go_enter Tryz.func13,Tryz.ntmps13
        go_wp2_with (first
          | (go_at_call 50;refine hTo.mono ?_;rintro e w2 ⟨rfl,rfl⟩)
          | (go_at_call 49;refine hR.mono ?_;rintro e w1 ⟨hb1,vR,I,B,rfl,hTr,hwf,hrow,hq,hql⟩;have hTo:=total_any w1 T B Q vR hrow hql (fun p hp=>hTr.places hwf p (hq p hp)) (fun p hp=>by rw [G.sz_eq (List.getElem?_eq_getElem (hq p hp))];exact hwf.le _ (List.getElem_mem _));rw [hmin] at hTo;obtain ⟨va,vc,hve⟩:=Rf.own_len hrow;subst hve))
        go_ret3
        exact ⟨hb1,.inl ⟨.inr h100,rfl⟩⟩
      · have hmin:min (G.sizeOf T Q) 101=G.sizeOf T Q:=by omega
        have h100':¬ (100:Int) < (G.sizeOf T Q:Int):=by omega
        go_enter Tryz.func13,Tryz.ntmps13
        go_wp2_with (first
          | (go_at_call 52;refine hNw.mono ?_;rintro e w3 ⟨rfl,⟨v,V,hM3⟩,hb3⟩)
          | (go_at_call 51;refine (sclone_any s w2 (by omega)).mono ?_;rintro e w4 ⟨rfl,hb4⟩;have hTr4:=hTr.below hb4;have hNw:=new_any w4 I T B Q _ hwf hTr4 (Rf.own_same hrow (fun k e=>hb4.block k (hrow.lt k e).2)) hq hql (by rw [G.len_flatMap,G.sizeOf_pls hwf Q hq (by omega)];omega))
          | (go_at_call 50;refine hTo.mono ?_;rintro e w2 ⟨rfl,rfl⟩)
          | (go_at_call 49;refine hR.mono ?_;rintro e w1 ⟨hb1,vR,I,B,rfl,hTr,hwf,hrow,hq,hql⟩;have hTo:=total_any w1 T B Q vR hrow hql (fun p hp=>hTr.places hwf p (hq p hp)) (fun p hp=>by rw [G.sz_eq (List.getElem?_eq_getElem (hq p hp))];exact hwf.le _ (List.getElem_mem _));rw [hmin] at hTo;obtain ⟨va,vc,hve⟩:=Rf.own_len hrow;subst hve))
        go_ret3
        have hba:Below w3.heap.size w3 (w3.alloc (.cells #[.string s,.int .i64 (Q.length:Int),pv w4.heap.size] 113)):=(Below.refl _ _).alloc (Nat.le_refl _) _
        have hz3:=hb3.size
        have hz1:=hb1.size
        have hz4:=hb4.size
        refine ⟨((hb1.trans (hb4.mono hz1)).trans (hb3.mono (by omega))).trans (hba.mono (by omega)),.inr ⟨⟨by omega,by omega⟩,_,by omega,rfl,⟨I,w4.heap.size,v,V,⟨s,hs,hr,heap_alloc_new w3 _⟩,hM3.below (fun k hk=>by have:=hTr4.lt k hk;omega) hba,fun k hk=>?_⟩⟩⟩
        have:=hTr4.lt k hk
        simp
        omega
end Pr
end Go.Proofs.YtpgcidpghmoibaaGreatDoor

namespace Go.Proofs.YtpgcidpghmoibaaGreatDoor
namespace Pr
open Go.RowKit
open G (PNode)
set_option maxRecDepth 100000 in
theorem lnum_any (n:Int) (w:World):Calls Tryz.prog 35 #[.int .i64 n] w fun e w'=>e=.returned (.int .i64 n)∧w'=w:=by
  go_enter Tryz.func35,Tryz.ntmps35
  go_wp2
  go_ret
  exact ⟨rfl,rfl⟩
structure Both (w:World) (b q:Nat) (T:List PNode) (Q:List Nat):Prop where
  pr:PRul w b T Q
  rf:Rf.Made q w T Q
  wf:G.WF T
  lt:∀ p ∈ Q,p < T.length
  few:Q.length≤50
  sz:G.sizeOf T Q≤100
  fe:G.Few 2001 T
  tl:T.length≤8000
def CPost (w:World) (e:Ending) (w':World):Prop:=
  Below w.heap.size w w'∧((∃ q,e=.returned (.tuple #[.pointer none,pv q,.bool true])) ∨ ∃ b q T Q,e=.returned (.tuple #[pv b,pv q,.bool true])∧Both w' b q T Q∧w.heap.size≤q)
set_option maxRecDepth 100000 in
set_option maxHeartbeats 2000000 in
theorem compiled_any (w:World) (s:ByteArray) (hm:s.size≤maxLen) (hT:Tabs w):Calls Tryz.prog 14 #[.string s] w fun e w'=>CPost w e w':=by
  by_cases hs:2000 < s.size
  · have hP:=pcomp_long w s hs hm
    have hR:=Rf.comp_long w s hs hm
    go_enter Tryz.func14,Tryz.ntmps14
    go_wp2_with (first
      | (go_at_call 35;refine (lnum_any _ _).mono ?_;rintro e w9 ⟨rfl,rfl⟩)
      | (go_at_call 13;refine hP.mono ?_;rintro e w1 ⟨rfl,rfl⟩)
      | (go_at_call 53;refine hR.mono ?_;rintro e w2 ⟨rfl,hb2⟩))
    go_ret3
    exact ⟨hb2,.inl ⟨_,rfl⟩⟩
  · have hs2:s.size≤2000:=by omega
    obtain ⟨e0,w0,_,⟨_,r,hsrc,hpost⟩,_⟩:=Rf.comp_whole w s hs2 []
    have hfew:=hsrc.few (Nat.zero_le _) (G.Few.nil _)
    have hlong:=hsrc.long (Nat.zero_le _) (fun k x hx=>by simp at hx) (fun x hx=>by simp at hx) (Nat.zero_le _) (Nat.zero_le _)
    cases r with
    | err c p =>
      obtain ⟨hc,_⟩:=hpost
      have hP:=pcomp_any w s (.err c p) hs2 hT hsrc (fun c' p' e=>by cases e;exact hc)
      have hcb:((c:Int) != 0)=true:=by simp;omega
      have hcz:¬ (c:Int)=0:=by omega
      unfold PComp at hP
      go_enter Tryz.func14,Tryz.ntmps14
      go_wp2_with (first
        | (go_at_call 35;refine (lnum_any _ _).mono ?_;rintro e w9 ⟨rfl,rfl⟩)
        | (go_at_call 13;refine hP.mono ?_;rintro e w1 ⟨hb1,rfl⟩)
        | (go_at_call 53;refine (Rf.comp_whole _ s hs2).mono ?_;rintro e w2 ⟨hb2,r',hsrc',hm'⟩;have hrr:=hsrc.det _ hsrc';subst hrr;obtain ⟨_,rfl⟩:=hm'))
      go_ret3
      exact ⟨hb1.trans (hb2.mono hb1.size),.inl ⟨_,rfl⟩⟩
    | ok Q T =>
      have hP:=pcomp_any w s (.ok Q T) hs2 hT hsrc (fun c' p' e=>by cases e)
      unfold PComp at hP
      simp only at hP
      obtain ⟨hwf,hq,hpost⟩:=hpost
      by_cases hbig:50 < Q.length ∨ 100 < G.sizeOf T Q
      · go_enter Tryz.func14,Tryz.ntmps14
        go_wp2_with (first
        | (go_at_call 35;refine (lnum_any _ _).mono ?_;rintro e w9 ⟨rfl,rfl⟩)
        | (go_at_call 13;refine hP.mono ?_;rintro e w1 ⟨hb1,⟨_,rfl⟩ | ⟨hno,_⟩⟩;rotate_left;exact absurd hbig (by omega))
          | (go_at_call 53;refine (Rf.comp_whole _ s hs2).mono ?_;rintro e w2 ⟨hb2,r',hsrc',hm'⟩;have hrr:=hsrc.det _ hsrc';subst hrr;obtain ⟨_,_,hm'⟩:=hm';rcases hm' with ⟨_,rfl⟩ | ⟨hno,_⟩;rotate_left;exact absurd hbig (by omega)))
        go_ret3
        exact ⟨hb1.trans (hb2.mono hb1.size),.inl ⟨_,rfl⟩⟩
      · go_enter Tryz.func14,Tryz.ntmps14
        go_wp2_with (first
        | (go_at_call 35;refine (lnum_any _ _).mono ?_;rintro e w9 ⟨rfl,rfl⟩)
        | (go_at_call 13;refine hP.mono ?_;rintro e w1 ⟨hb1,⟨hno,_⟩ | ⟨_,b,hbl,rfl,hpr⟩⟩;exact absurd hno hbig)
          | (go_at_call 53;refine (Rf.comp_whole _ s hs2).mono ?_;rintro e w2 ⟨hb2,r',hsrc',hm'⟩;have hrr:=hsrc.det _ hsrc';subst hrr;obtain ⟨_,_,hm'⟩:=hm';rcases hm' with ⟨hno,_⟩ | ⟨_,hmade,rfl⟩;exact absurd hno hbig))
        go_ret3
        refine ⟨hb1.trans (hb2.mono hb1.size),.inr ⟨_,_,T,Q,rfl,⟨hpr.below hb2,hmade,hwf,hq,by omega,by omega,?_,?_⟩,hb1.size⟩⟩
        · exact fun x hx=>by have:=hfew x hx;omega
        · have:=hlong.1;omega
end Pr
end Go.Proofs.YtpgcidpghmoibaaGreatDoor

namespace Go.Proofs.YtpgcidpghmoibaaGreatDoor
namespace Pr
open G (PNode)
theorem hasI_nat (a j:Nat) (ha:a < 18446744073709551616):hasI (a:Int) j=a.testBit j:=by
  unfold hasI
  have e:(a:Int) / 2 ^ j=((a / 2 ^ j:Nat):Int):=by simp
  have hlt:a / 2 ^ j < 18446744073709551616:=Nat.lt_of_le_of_lt (Nat.div_le_self _ _) ha
  have h1:=bits_and_u64_nat (a / 2 ^ j) 1 hlt (by omega)
  rw [e,show (1:Int)=((1:Nat):Int) from rfl,h1,Nat.and_one_is_mod,Nat.testBit_eq_decide_div_mod_eq]
  by_cases h:a / 2 ^ j % 2=1
  · simp [h]
  · have h0:a / 2 ^ j % 2=0:=by omega
    simp [h0]
theorem orI_nat (a b:Nat) (ha:a < 18446744073709551616) (hb:b < 18446744073709551616):orI (a:Int) (b:Int)=((a ||| b:Nat):Int):=bits_or_u64_nat a b ha hb
theorem pow_lt64 (j:Nat) (hj:j < 64):2 ^ j < 18446744073709551616:=by
  have:2 ^ j < 2 ^ 64:=Nat.pow_lt_pow_right (by omega) hj
  simpa using this
theorem withI_nat (a j:Nat) (ha:a < 18446744073709551616) (hj:j < 64):withI (a:Int) j=((a ||| 2 ^ j:Nat):Int):=by
  unfold withI
  have h2:=pow_lt64 j hj
  have e:IntKind.u64.wrap (2 ^ j)=((2 ^ j:Nat):Int):=by
    have h3:(2:Int) ^ j=((2 ^ j:Nat):Int):=by simp
    rw [h3,IntKind.wrap_u64]
    generalize (2 ^ j:Nat)=m at *
    omega
  rw [e]
  exact bits_or_u64_nat a (2 ^ j) ha h2
def PB.Ok (x:PB):Prop:=∃ a c:Nat,a < 18446744073709551616∧c < 18446744073709551616∧x=⟨(a:Int),(c:Int)⟩
theorem PB.ok_zero:PB.zero.Ok:=⟨0,0,by omega,by omega,rfl⟩
theorem or_lt64 {a b:Nat} (ha:a < 18446744073709551616) (hb:b < 18446744073709551616):a ||| b < 18446744073709551616:=by
  have:a ||| b < 2 ^ 64:=Nat.or_lt_two_pow (by simpa using ha) (by simpa using hb)
  simpa using this
theorem PB.Ok.or {x y:PB} (hx:x.Ok) (hy:y.Ok):(x.or y).Ok:=by
  obtain ⟨a,c,ha,hc,rfl⟩:=hx
  obtain ⟨b,d,hb,hd,rfl⟩:=hy
  exact ⟨a ||| b,c ||| d,or_lt64 ha hb,or_lt64 hc hd,by simp only [PB.or,orI_nat a b ha hb,orI_nat c d hc hd]⟩
theorem PB.Ok.with {x:PB} (hx:x.Ok) (i:Nat):(x.with i).Ok:=by
  obtain ⟨a,c,ha,hc,rfl⟩:=hx
  have hj:i % 64 < 64:=Nat.mod_lt _ (by omega)
  unfold PB.with
  split
  · exact ⟨a ||| 2 ^ (i % 64),c,or_lt64 ha (pow_lt64 _ hj),hc,by simp only [withI_nat a _ ha hj]⟩
  · exact ⟨a,c ||| 2 ^ (i % 64),ha,or_lt64 hc (pow_lt64 _ hj),by simp only [withI_nat c _ hc hj]⟩
theorem PB.has_or {x y:PB} (hx:x.Ok) (hy:y.Ok) (i:Nat):(x.or y).has i=(x.has i || y.has i):=by
  obtain ⟨a,c,ha,hc,rfl⟩:=hx
  obtain ⟨b,d,hb,hd,rfl⟩:=hy
  simp only [PB.has,PB.or,orI_nat a b ha hb,orI_nat c d hc hd,hasI_nat _ _ ha,hasI_nat _ _ hb,hasI_nat _ _ hc,hasI_nat _ _ hd,hasI_nat _ _ (or_lt64 ha hb),hasI_nat _ _ (or_lt64 hc hd),Nat.testBit_or]
  split <;> rfl
theorem PB.has_zero (i:Nat):PB.zero.has i=false:=by
  have h:=hasI_nat 0 (i % 64) (by omega)
  simp only [Nat.zero_testBit] at h
  have h':hasI 0 (i % 64)=false:=h
  simp [PB.has,PB.zero,h']
theorem PB.has_with {x:PB} (hx:x.Ok) (i j:Nat) (hi:i < 128) (hj:j < 128):(x.with i).has j=(x.has j || decide (i=j)):=by
  obtain ⟨a,c,ha,hc,rfl⟩:=hx
  have hm:i % 64 < 64:=Nat.mod_lt _ (by omega)
  by_cases h1:i < 64
  · simp only [PB.with,if_pos h1,PB.has,withI_nat a _ ha hm]
    by_cases h2:j < 64
    · simp only [if_pos h2,hasI_nat _ _ ha,hasI_nat _ _ (or_lt64 ha (pow_lt64 _ hm)),Nat.testBit_or,Nat.testBit_two_pow]
      rw [Nat.mod_eq_of_lt h1,Nat.mod_eq_of_lt h2]
    · simp only [if_neg h2]
      have:decide (i=j)=false:=by simp;omega
      rw [this,Bool.or_false]
  · simp only [PB.with,if_neg h1,PB.has,withI_nat c _ hc hm]
    by_cases h2:j < 64
    · simp only [if_pos h2]
      have:decide (i=j)=false:=by simp;omega
      rw [this,Bool.or_false]
    · simp only [if_neg h2,hasI_nat _ _ hc,hasI_nat _ _ (or_lt64 hc (pow_lt64 _ hm)),Nat.testBit_or,Nat.testBit_two_pow]
      have:decide (i % 64=j % 64)=decide (i=j):=by rw [decide_eq_decide];omega
      rw [this]
theorem PB.zero_of {x:PB} (hx:x.Ok) (h:∀ i,i < 128→x.has i=false):x=PB.zero:=by
  obtain ⟨a,c,ha,hc,rfl⟩:=hx
  have big:∀ n j:Nat,n < 18446744073709551616→64≤j→n.testBit j=false:=fun n j hn hj=>Nat.testBit_lt_two_pow (Nat.lt_of_lt_of_le hn (by
    have:2 ^ 64≤2 ^ j:=Nat.pow_le_pow_right (by omega) hj
    simpa using this))
  have ea:a=0:=Nat.eq_of_testBit_eq fun j=>by
    rw [Nat.zero_testBit]
    by_cases hj:j < 64
    · have:=h j (by omega)
      simp only [PB.has,if_pos hj,hasI_nat _ _ ha,Nat.mod_eq_of_lt hj] at this
      exact this
    · exact big a j ha (by omega)
  have ec:c=0:=Nat.eq_of_testBit_eq fun j=>by
    rw [Nat.zero_testBit]
    by_cases hj:j < 64
    · have:=h (j + 64) (by omega)
      simp only [PB.has,if_neg (show ¬ j + 64 < 64 by omega),hasI_nat _ _ hc] at this
      rw [show (j + 64) % 64=j by omega] at this
      exact this
    · exact big c j hc (by omega)
  subst ea ec
  rfl
def hP (x:PB) (i:Nat):Prop:=i < 128∧x.has i=true
theorem hP_zero (i:Nat):¬ hP PB.zero i:=fun h=>by rw [hP,PB.has_zero] at h;simp at h
theorem hP_or {x y:PB} (hx:x.Ok) (hy:y.Ok) (i:Nat):hP (x.or y) i ↔ hP x i ∨ hP y i:=by
  unfold hP
  rw [PB.has_or hx hy,Bool.or_eq_true]
  constructor
  · rintro ⟨h,a | a⟩
    · exact .inl ⟨h,a⟩
    · exact .inr ⟨h,a⟩
  · rintro (⟨h,a⟩ | ⟨h,a⟩)
    · exact ⟨h,.inl a⟩
    · exact ⟨h,.inr a⟩
theorem hP_one {k:Nat} (hk:k < 128) (i:Nat):hP (PB.zero.with k) i ↔ i=k:=by
  unfold hP
  constructor
  · rintro ⟨h,a⟩
    rw [PB.has_with PB.ok_zero k i hk h,PB.has_zero] at a
    simpa using (by simpa using a:k=i).symm
  · rintro rfl
    refine ⟨hk,?_⟩
    rw [PB.has_with PB.ok_zero i i hk hk]
    simp
def tP (P:List Pl) (i:Nat) (c:Int):Prop:=∃ p,P[i]?=some p∧G.inV p.x c=true
def bP (P:List Pl) (i j:Nat):Prop:=∃ p,P[i]?=some p∧hP p.be j
theorem lnk_get (x y:PB) (P:List Pl) (i:Nat):(lnk x y P)[i]?=P[i]?.map fun p=>if x.has i=true then p.or y else p:=by
  unfold lnk lnkP
  rw [List.getElem?_mapIdx]
  cases h:P[i]? with
  | none=>rfl
  | some p =>
    have hi:i < P.length:=(List.getElem?_eq_some_iff.1 h).1
    simp [hi]
theorem lnk_not {x y:PB} {P:List Pl} {i:Nat} (h:x.has i=false):(lnk x y P)[i]?=P[i]?:=by
  rw [lnk_get]
  cases P[i]? with
  | none=>rfl
  | some p=>simp [h]
theorem tP_lnk (x y:PB) (P:List Pl) (i:Nat) (c:Int):tP (lnk x y P) i c ↔ tP P i c:=by
  unfold tP
  rw [lnk_get]
  cases P[i]? with
  | none=>simp
  | some p =>
    simp only [Option.map_some,Option.some.injEq]
    constructor
    · rintro ⟨q,rfl,h⟩
      refine ⟨p,rfl,?_⟩
      split at h
      · exact h
      · exact h
    · rintro ⟨q,rfl,h⟩
      refine ⟨_,rfl,?_⟩
      split
      · exact h
      · exact h
def OkP (P:List Pl):Prop:=∀ p ∈ P,p.be.Ok
theorem OkP.at {P:List Pl} (h:OkP P) {i:Nat} {p:Pl} (hp:P[i]?=some p):p.be.Ok:=h p (List.mem_of_getElem? hp)
theorem OkP.lnk {P:List Pl} (h:OkP P) {x y:PB} (hy:y.Ok):OkP (lnk x y P):=by
  intro p hp
  obtain ⟨i,hi⟩:=List.mem_iff_getElem?.1 hp
  rw [lnk_get] at hi
  cases hq:P[i]? with
  | none=>rw [hq] at hi;simp at hi
  | some q =>
    rw [hq] at hi
    simp only [Option.map_some,Option.some.injEq] at hi
    subst hi
    split
    · exact PB.Ok.or (h.at hq) hy
    · exact h.at hq
theorem bP_lnk {x y:PB} {P:List Pl} (h:OkP P) (hy:y.Ok) (hl:P.length≤128) (i j:Nat):bP (lnk x y P) i j ↔ bP P i j ∨ (i < P.length∧hP x i∧hP y j):=by
  unfold bP
  rw [lnk_get]
  cases hq:P[i]? with
  | none =>
    have:¬ i < P.length:=by simpa using hq
    simp [this]
  | some p =>
    have hi:i < P.length:=(List.getElem?_eq_some_iff.1 hq).1
    simp only [Option.map_some,Option.some.injEq]
    constructor
    · rintro ⟨q,rfl,g⟩
      split at g
      · rename_i hx
        rcases (hP_or (h.at hq) hy j).1 g with g | g
        · exact .inl ⟨p,rfl,g⟩
        · exact .inr ⟨hi,⟨by omega,hx⟩,g⟩
      · exact .inl ⟨p,rfl,g⟩
    · rintro (⟨q,rfl,g⟩ | ⟨_,⟨_,hx⟩,g⟩)
      · refine ⟨_,rfl,?_⟩
        split
        · exact (hP_or (h.at hq) hy j).2 (.inl g)
        · exact g
      · refine ⟨_,rfl,?_⟩
        rw [if_pos hx]
        exact (hP_or (h.at hq) hy j).2 (.inr g)
end Pr
end Go.Proofs.YtpgcidpghmoibaaGreatDoor

namespace Go.Proofs.YtpgcidpghmoibaaGreatDoor
namespace Pr
open G (PNode Lang Gl Pth)
structure GlN (A:Lang) (P:List Pl) (r:List Pl × En):Prop where
  old:∀ i,i < P.length→r.1[i]?=P[i]?
  ok:OkP r.1
  okf:r.2.f.Ok
  okl:r.2.l.Ok
  gl:Gl (tP r.1) (bP r.1) (hP r.2.f) (hP r.2.l) (r.2.e=true) P.length r.1.length A
theorem tP_same {P P':List Pl} {i:Nat} (h:P'[i]?=P[i]?) (c:Int):tP P' i c ↔ tP P i c:=by unfold tP;rw [h]
theorem bP_same {P P':List Pl} {i:Nat} (h:P'[i]?=P[i]?) (j:Nat):bP P' i j ↔ bP P i j:=by unfold bP;rw [h]
theorem not_has {x:PB} {i:Nat} (hi:i < 128) (h:¬ hP x i):x.has i=false:=by
  cases e:x.has i with
  | false=>rfl
  | true=>exact absurd ⟨hi,e⟩ h
theorem GlN.seq {A A2:Lang} {P:List Pl} {s r:List Pl × En} (g:GlN A P s) (g2:GlN A2 s.1 r) (hl:r.1.length≤128):GlN (Lang.cat A A2) P (seqStep s r):=by
  have l1:=g.gl.le
  have l2:=g2.gl.le
  have hnot:∀ i,i < r.1.length→¬ (P.length≤i∧i < s.1.length)→s.2.l.has i=false:=fun i hi h=>not_has (by omega) (fun h'=>h (g.gl.lr i h'))
  have hlen:(seqStep s r).1.length=r.1.length:=lnkP_len _ _ _ _
  have k1:Gl (tP (seqStep s r).1) (bP s.1) (hP s.2.f) (hP s.2.l) (s.2.e=true) P.length s.1.length A:=
    g.gl.congr (fun i c h1 h2=>((tP_lnk _ _ _ i c).trans (tP_same (g2.old i h2) c)).symm) (fun _ _ _ _=>Iff.rfl) (fun _=>Iff.rfl) (fun _=>Iff.rfl) Iff.rfl
  have k2:Gl (tP (seqStep s r).1) (bP r.1) (hP r.2.f) (hP r.2.l) (r.2.e=true) s.1.length r.1.length A2:=
    g2.gl.congr (fun i c _ _=>(tP_lnk _ _ _ i c).symm) (fun _ _ _ _=>Iff.rfl) (fun _=>Iff.rfl) (fun _=>Iff.rfl) Iff.rfl
  have hB:=fun i j=>bP_lnk (x:=s.2.l) (y:=r.2.f) g2.ok g2.okf hl i j
  have k:=k1.cat (B:=bP (seqStep s r).1) k2
    (fun i j h1 h2=>by
      show bP (lnk s.2.l r.2.f r.1) i j ↔ _
      rw [hB i j,bP_same (g2.old i h2)]
      constructor
      · rintro (h | ⟨_,h⟩)
        · exact .inl h
        · exact .inr h
      · rintro (h | h)
        · exact .inl h
        · exact .inr ⟨by omega,h⟩)
    (fun i j h1 h2=>by
      show bP (lnk s.2.l r.2.f r.1) i j ↔ _
      rw [hB i j]
      constructor
      · rintro (h | ⟨_,h,_⟩)
        · exact h
        · have:=g.gl.lr i h;omega
      · exact .inl)
  refine { old:=?_,ok:=g2.ok.lnk g2.okf,okf:=?_,okl:=?_,gl:=?_ }
  · intro i hi
    show (lnk s.2.l r.2.f r.1)[i]?=_
    rw [lnk_not (hnot i (by omega) (by omega)),g2.old i (by omega),g.old i hi]
  · show (if s.2.e=true then s.2.f.or r.2.f else s.2.f).Ok
    split
    · exact g.okf.or g2.okf
    · exact g.okf
  · show (if r.2.e=true then r.2.l.or s.2.l else r.2.l).Ok
    split
    · exact g2.okl.or g.okl
    · exact g2.okl
  · rw [hlen]
    refine k.congr (fun _ _ _ _=>Iff.rfl) (fun _ _ _ _=>Iff.rfl) (fun i=>?_) (fun i=>?_) ?_
    · show _ ↔ hP (if s.2.e=true then s.2.f.or r.2.f else s.2.f) i
      by_cases h:s.2.e=true
      · rw [if_pos h,hP_or g.okf g2.okf];simp [h]
      · rw [if_neg h];simp [h]
    · show _ ↔ hP (if r.2.e=true then r.2.l.or s.2.l else r.2.l) i
      by_cases h:r.2.e=true
      · rw [if_pos h,hP_or g2.okl g.okl];simp [h]
      · rw [if_neg h];simp [h]
    · show _ ↔ (s.2.e && r.2.e)=true
      simp
theorem GlN.or {A A2:Lang} {P:List Pl} {s r:List Pl × En} (g:GlN A P s) (g2:GlN A2 s.1 r):GlN (fun u=>A u ∨ A2 u) P (orStep s r):=by
  have l1:=g.gl.le
  have l2:=g2.gl.le
  have k1:Gl (tP r.1) (bP s.1) (hP s.2.f) (hP s.2.l) (s.2.e=true) P.length s.1.length A:=
    g.gl.congr (fun i c h1 h2=>(tP_same (g2.old i h2) c).symm) (fun _ _ _ _=>Iff.rfl) (fun _=>Iff.rfl) (fun _=>Iff.rfl) Iff.rfl
  have k:=k1.alt (B:=bP r.1) g2.gl (fun i j h1 h2=>bP_same (g2.old i h2) j) (fun _ _ _ _=>Iff.rfl)
  refine { old:=?_,ok:=g2.ok,okf:=g.okf.or g2.okf,okl:=g.okl.or g2.okl,gl:=?_ }
  · intro i hi
    show r.1[i]?=_
    rw [g2.old i (by omega),g.old i hi]
  · refine k.congr (fun _ _ _ _=>Iff.rfl) (fun _ _ _ _=>Iff.rfl) (fun i=>?_) (fun i=>?_) ?_
    · exact (hP_or g.okf g2.okf i).symm
    · exact (hP_or g.okl g2.okl i).symm
    · show _ ↔ (s.2.e || r.2.e)=true
      simp
theorem GlN.rep {A:Lang} {P:List Pl} {r:List Pl × En} (g:GlN A P r) (k:Nat) (hl:r.1.length≤128):GlN (Lang.rep k A) P (repStep k r):=by
  have l1:=g.gl.le
  unfold repStep Lang.rep
  by_cases h63:k=63
  · subst h63
    rw [if_pos rfl,if_pos rfl]
    exact { old:=g.old,ok:=g.ok,okf:=g.okf,okl:=g.okl,gl:=g.gl.opt.congr (fun _ _ _ _=>Iff.rfl) (fun _ _ _ _=>Iff.rfl) (fun _=>Iff.rfl) (fun _=>Iff.rfl) (by simp) }
  · rw [if_neg h63,if_neg h63]
    have hB:∀ i j,P.length≤i→i < r.1.length→(bP (lnk r.2.l r.2.f r.1) i j ↔ bP r.1 i j ∨ (hP r.2.l i∧hP r.2.f j)):=fun i j h1 h2=>by
      rw [bP_lnk g.ok g.okf hl]
      constructor
      · rintro (h | ⟨_,h⟩)
        · exact .inl h
        · exact .inr h
      · rintro (h | h)
        · exact .inl h
        · exact .inr ⟨h2,h⟩
    have ht:∀ i c,P.length≤i→i < r.1.length→(tP r.1 i c ↔ tP (lnk r.2.l r.2.f r.1) i c):=fun i c _ _=>(tP_lnk _ _ _ i c).symm
    have hlen:(lnk r.2.l r.2.f r.1).length=r.1.length:=lnkP_len _ _ _ _
    have hold:∀ i,i < P.length→(lnk r.2.l r.2.f r.1)[i]?=P[i]?:=fun i hi=>by
      rw [lnk_not (not_has (by omega) (fun h=>by have:=g.gl.lr i h;omega)),g.old i hi]
    by_cases h43:k=43
    · subst h43
      rw [if_pos rfl,if_pos rfl]
      refine { old:=hold,ok:=g.ok.lnk g.okf,okf:=g.okf,okl:=g.okl,gl:=?_ }
      show Gl _ _ _ _ _ _ (lnk r.2.l r.2.f r.1).length _
      rw [hlen]
      exact (g.gl.plus hB).congr ht (fun _ _ _ _=>Iff.rfl) (fun _=>Iff.rfl) (fun _=>Iff.rfl) Iff.rfl
    · rw [if_neg h43,if_neg h43]
      refine { old:=hold,ok:=g.ok.lnk g.okf,okf:=g.okf,okl:=g.okl,gl:=?_ }
      show Gl _ _ _ _ _ _ (lnk r.2.l r.2.f r.1).length _
      rw [hlen]
      exact (g.gl.star hB).congr ht (fun _ _ _ _=>Iff.rfl) (fun _=>Iff.rfl) (fun _=>Iff.rfl) (by simp)
theorem GlN.nil (A:Lang) (b:Bool) (P:List Pl) (hP':OkP P) (hA:Gl (tP P) (bP P) (fun _=>False) (fun _=>False) (b=true) P.length P.length A):GlN A P (P,⟨PB.zero,PB.zero,b⟩) where
  old _ _:=rfl
  ok:=hP'
  okf:=PB.ok_zero
  okl:=PB.ok_zero
  gl:=hA.congr (fun _ _ _ _=>Iff.rfl) (fun _ _ _ _=>Iff.rfl) (fun i=>⟨fun h=>h.elim,fun h=>(hP_zero i h).elim⟩) (fun i=>⟨fun h=>h.elim,fun h=>(hP_zero i h).elim⟩) Iff.rfl
theorem GlN.place (x:PNode) (P:List Pl) (hP':OkP P) (hl:P.length < 128):GlN (Lang.one x) P (P ++ [⟨x,0,false,⟨0,0⟩⟩],⟨PB.zero.with P.length,PB.zero.with P.length,false⟩):=by
  have hget:(P ++ [(⟨x,0,false,⟨0,0⟩⟩:Pl)])[P.length]?=some ⟨x,0,false,⟨0,0⟩⟩:=by simp
  refine { old:=fun i hi=>by rw [List.getElem?_append_left hi],ok:=?_,okf:=PB.ok_zero.with _,okl:=PB.ok_zero.with _,gl:=?_ }
  · intro p hp
    rcases List.mem_append.1 hp with hp | hp
    · exact hP' p hp
    · have:p=⟨x,0,false,⟨0,0⟩⟩:=by simpa using hp
      subst this
      exact PB.ok_zero
  · show Gl _ _ _ _ _ _ (P ++ [_]).length _
    rw [List.length_append,List.length_singleton]
    refine (Gl.place (x:=x) (fun c=>?_) (fun j=>?_)).congr (fun _ _ _ _=>Iff.rfl) (fun _ _ _ _=>Iff.rfl) (fun i=>(hP_one hl i).symm) (fun i=>(hP_one hl i).symm) (by simp)
    · unfold tP
      rw [hget]
      simp
    · unfold bP
      rw [hget]
      rintro ⟨p,hp,h⟩
      simp only [Option.some.injEq] at hp
      subst hp
      exact hP_zero j h
theorem foldS_gl {T:List PNode} (hT:G.WF T) (P:List Pl):∀ (ps:List Nat) (A:Lang) (s:List Pl × En),(∀ p ∈ ps,p < T.length)→(∀ p ∈ ps,∀ P',OkP P'→P'.length + (G.lv T p).length≤128→GlN (G.lang T p) P' (adN T p P'))→GlN A P s→s.1.length + (ps.flatMap (G.lv T)).length≤128→GlN (Lang.cat A (Lang.seq (ps.map (G.lang T)))) P (foldS T ps s)
  | [],A,s,_,_,g,_=>by
    have e:Lang.cat A (Lang.seq (List.map (G.lang T) []))=A:=Lang.cat_eps A
    rw [e]
    exact g
  | p :: ps,A,s,hp,h,g,hl=>by
    simp only [List.flatMap_cons,List.length_append] at hl
    have h1:=h p (by simp) s.1 g.ok (by omega)
    have hlen:=adN_len hT p (hp p (by simp)) s.1
    have g1:=g.seq h1 (by omega)
    have ih:=foldS_gl hT P ps _ _ (fun q hq=>hp q (by simp [hq])) (fun q hq=>h q (by simp [hq])) g1 (by
      have e:(seqStep s (adN T p s.1)).1.length=(adN T p s.1).1.length:=lnkP_len _ _ _ _
      omega)
    rw [Lang.cat_assoc] at ih
    exact ih
theorem foldO_gl {T:List PNode} (hT:G.WF T) (P:List Pl):∀ (ps:List Nat) (A:Lang) (s:List Pl × En),(∀ p ∈ ps,p < T.length)→(∀ p ∈ ps,∀ P',OkP P'→P'.length + (G.lv T p).length≤128→GlN (G.lang T p) P' (adN T p P'))→GlN A P s→s.1.length + (ps.flatMap (G.lv T)).length≤128→GlN (fun u=>A u ∨ Lang.alt (ps.map (G.lang T)) u) P (foldO T ps s)
  | [],A,s,_,_,g,_=>by
    have e:(fun u=>A u ∨ Lang.alt (List.map (G.lang T) []) u)=A:=Lang.ext fun u=>by simp [Lang.alt,Lang.none]
    rw [e]
    exact g
  | p :: ps,A,s,hp,h,g,hl=>by
    simp only [List.flatMap_cons,List.length_append] at hl
    have h1:=h p (by simp) s.1 g.ok (by omega)
    have hlen:=adN_len hT p (hp p (by simp)) s.1
    have g1:=g.or h1
    have ih:=foldO_gl hT P ps _ _ (fun q hq=>hp q (by simp [hq])) (fun q hq=>h q (by simp [hq])) g1 (by
      have e:(orStep s (adN T p s.1)).1.length=(adN T p s.1).1.length:=rfl
      omega)
    have e:(fun u=>(A u ∨ G.lang T p u) ∨ Lang.alt (List.map (G.lang T) ps) u)=fun u=>A u ∨ Lang.alt (List.map (G.lang T) (p :: ps)) u:=Lang.ext fun u=>by simp [Lang.alt,or_assoc]
    rw [e] at ih
    exact ih
theorem adN_gl {T:List PNode} (hT:G.WF T):∀ (n:Nat),n < T.length→∀ P,OkP P→P.length + (G.lv T n).length≤128→GlN (G.lang T n) P (adN T n P):=by
  intro n
  induction n using Nat.strongRecOn with
  | ind n ih =>
    intro hn P hP' hl
    have hx:T[n]?=some (T[n]'hn):=List.getElem?_eq_getElem hn
    generalize T[n]'hn=x at hx
    have hps:=(hT n x hx).parts
    have hpl:∀ p ∈ x.parts,p < T.length:=fun p hp=>by have:=hps p hp;omega
    have hih:∀ p ∈ x.parts,∀ P',OkP P'→P'.length + (G.lv T p).length≤128→GlN (G.lang T p) P' (adN T p P'):=fun p hp=>ih p (hps p hp) (hpl p hp)
    rw [G.lv_step hT hx] at hl
    rw [adN_eq hT hx]
    by_cases h1:G.lone x=true
    · rw [if_pos h1]
      obtain ⟨p,hp⟩:=G.lone_head h1
      have hk:x.kind ≠ 115:=by
        simp only [G.lone,Bool.and_eq_true,Bool.or_eq_true,decide_eq_true_eq] at h1
        omega
      rw [if_neg hk,hp] at hl
      rw [G.lang_lone hT hx h1 hp,hp]
      exact hih p (by rw [hp];simp) P hP' (by simpa using hl)
    · rw [if_neg h1]
      by_cases h2:x.kind=115
      · rw [if_pos h2] at hl ⊢
        rw [G.lang_set hT hx h2]
        exact GlN.place x P hP' (by simp at hl;omega)
      · rw [if_neg h2] at hl ⊢
        by_cases h3:x.kind=113
        · rw [if_pos h3,G.lang_seq hT hx h3]
          have g:=foldS_gl hT P x.parts Lang.eps _ hpl hih (GlN.nil Lang.eps true P hP' ((Gl.eps _).congr (fun _ _ _ _=>Iff.rfl) (fun _ _ _ _=>Iff.rfl) (fun _=>Iff.rfl) (fun _=>Iff.rfl) (by simp))) hl
          rw [Lang.eps_cat] at g
          exact g
        · rw [if_neg h3]
          by_cases h4:x.kind=99
          · rw [if_pos h4,G.lang_alt hT hx h4]
            have g:=foldO_gl hT P x.parts Lang.none _ hpl hih (GlN.nil Lang.none false P hP' ((Gl.void _).congr (fun _ _ _ _=>Iff.rfl) (fun _ _ _ _=>Iff.rfl) (fun _=>Iff.rfl) (fun _=>Iff.rfl) (by simp))) hl
            have e:(fun u=>Lang.none u ∨ Lang.alt (x.parts.map (G.lang T)) u)=Lang.alt (x.parts.map (G.lang T)):=Lang.ext fun u=>by simp [Lang.none]
            rw [e] at g
            exact g
          · rw [if_neg h4]
            have hk:x.parts.length=1∧(x.kind=42 ∨ x.kind=43 ∨ x.kind=63):=by
              rcases (hT n x hx).kind with ⟨k,_⟩ | ⟨k,_⟩ | ⟨k',k⟩
              · exact absurd k h2
              · omega
              · exact ⟨k,by omega⟩
            obtain ⟨p,hp⟩:=List.length_eq_one_iff.1 hk.1
            have hr:G.reps x=true:=by simp [G.reps];omega
            rw [G.lang_rep hT hx hr hp,hp]
            rw [hp] at hl
            simp only [List.flatMap_cons,List.flatMap_nil,List.append_nil] at hl
            have hlen:=adN_len hT p (hpl p (by rw [hp];simp)) P
            exact (hih p (by rw [hp];simp) P hP' hl).rep x.kind (by show (adN T p P).1.length≤128;omega)
end Pr
end Go.Proofs.YtpgcidpghmoibaaGreatDoor
